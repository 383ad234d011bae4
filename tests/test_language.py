"""The files of the package keep to the plain language that the program is written in."""

import ast
import builtins
import unittest
from pathlib import Path

from tests.test_conventions import CALLS

FOLDER = Path(__file__).parent.parent / "twobesides"
LIBRARY = {"math": {"gcd", "lcm", "isqrt", "comb", "perm", "factorial"}}
LET = """property len range enumerate zip min max sum abs sorted reversed int str bool list tuple dict set isinstance ord repr any all
    divmod ValueError TypeError""".split()
BARRED = """register mro elements open input law type enum Generic Protocol ABC dataclass overload eval exec compile globals
    locals vars dir id help exit quit super""".split()


# What a row assigns and never reads; running examples gives builtins this name, too.
UNREAD = "_"


def files():
    return sorted(FOLDER.glob("*.py"))


def trees():
    return {path.stem: ast.parse(path.read_text()) for path in files()}


def bound_names(tree):
    """All names that are bound anywhere in a file: functions, classes, parameters, variables."""
    for node in ast.walk(tree):
        if isinstance(node, (ast.FunctionDef, ast.ClassDef)) and node.name not in ("__init__", "__eq__", "__len__"):
            yield node.name
        elif isinstance(node, ast.arg):
            yield node.arg
        elif isinstance(node, ast.Name) and isinstance(node.ctx, ast.Store):
            yield node.id


class Files(unittest.TestCase):
    def test_the_folder_holds_python_files_alone(self):
        others = [path.name for path in FOLDER.iterdir() if path.suffix != ".py" and path.name != "__pycache__"]
        self.assertEqual(others, [])
        self.assertLessEqual(len(files()), 100)

    def test_sizes_and_characters(self):
        for path in files():
            text = path.read_text()
            rows = text.split("\n")
            self.assertLessEqual(len(rows), 399, path.name)
            self.assertLessEqual(max(map(len, rows)), 120, path.name)
            self.assertTrue(all(sign == "\n" or " " <= sign <= "~" for sign in text), path.name)

    def test_functions_are_short(self):
        for name, tree in trees().items():
            for node in ast.walk(tree):
                if isinstance(node, ast.FunctionDef):
                    self.assertLessEqual(node.end_lineno - node.lineno + 1, 40, f"{name}.{node.name}")
                    decorators = [decorator.id for decorator in node.decorator_list]
                    self.assertIn(decorators, ([], ["property"]) if name == "hosts" else ([],), f"{name}.{node.name}")


class Imports(unittest.TestCase):
    def imported(self, tree):
        return [node for node in ast.walk(tree) if isinstance(node, (ast.Import, ast.ImportFrom))]

    def test_imports_name_the_file_that_defines_the_name(self):
        told = trees()
        for name, tree in told.items():
            for node in self.imported(tree):
                self.assertIsInstance(node, ast.ImportFrom, name)
                names = {alias.name for alias in node.names}
                if node.module in LIBRARY:
                    self.assertLessEqual(names, LIBRARY[node.module], name)
                    continue
                package, _, file = node.module.partition(".")
                self.assertEqual((package, node.level), ("twobesides", 0), name)
                self.assertLessEqual(names, self.defined(told[file]), name)

    def defined(self, tree):
        names = {node.name for node in tree.body if isinstance(node, (ast.FunctionDef, ast.ClassDef))}
        return names | {node.targets[0].id for node in tree.body if isinstance(node, ast.Assign)}

    def test_no_two_files_import_from_each_other(self):
        left = {}
        for name, tree in trees().items():
            left[name] = {node.module.partition(".")[2] for node in self.imported(tree)} - {""}
        while left:
            free = [name for name, needs in left.items() if not needs & set(left)]
            self.assertTrue(free, left)
            left = {name: needs for name, needs in left.items() if name not in free}

    def test_each_function_stands_in_its_own_file(self):
        told = trees()
        for function, _, _ in CALLS:
            self.assertIn(function.__name__, self.defined(told[function.__module__.partition(".")[2]]))


class Names(unittest.TestCase):
    def test_no_name_of_a_builtin_is_given_another_meaning(self):
        for name, tree in trees().items():
            for bound in bound_names(tree):
                self.assertNotIn(bound, BARRED, name)
                self.assertTrue(bound == UNREAD or not hasattr(builtins, bound), f"{name}: {bound}")

    def test_builtins_that_are_used(self):
        for name, tree in trees().items():
            for node in ast.walk(tree):
                if isinstance(node, ast.Name) and node.id != UNREAD and hasattr(builtins, node.id):
                    self.assertIn(node.id, LET, f"{name}: {node.id}")

    def test_no_name_is_bound_twice_at_module_level(self):
        for name, tree in trees().items():
            told = [node.name for node in tree.body if isinstance(node, (ast.FunctionDef, ast.ClassDef))]
            told += [alias.name for node in self.import_rows(tree) for alias in node.names]
            self.assertEqual(len(told), len(set(told)), name)

    def test_no_variable_has_the_name_of_an_import(self):
        for name, tree in trees().items():
            imported = {alias.name for node in self.import_rows(tree) for alias in node.names}
            self.assertEqual(imported & set(bound_names(tree)), set(), name)

    def import_rows(self, tree):
        return [node for node in tree.body if isinstance(node, ast.ImportFrom)]


class Expressions(unittest.TestCase):
    def test_nothing_that_is_not_let(self):
        for name, tree in trees().items():
            barred = (ast.Global, ast.Div, ast.AsyncFunctionDef, ast.Await) + (() if name == "hosts" else (ast.Try,))
            for node in ast.walk(tree):
                self.assertNotIsInstance(node, barred, f"{name}: {getattr(node, 'lineno', '')}")
                if isinstance(node, ast.Constant):
                    self.assertNotIsInstance(node.value, float, name)

    def test_exponents_are_literals(self):
        for name, tree in trees().items():
            for node in ast.walk(tree):
                if isinstance(node, ast.BinOp) and isinstance(node.op, ast.Pow):
                    self.assertIsInstance(node.right, ast.Constant, f"{name}: {node.lineno}")
                    self.assertIn(node.right.value, range(65), f"{name}: {node.lineno}")

    def test_no_set_is_iterated_kept_or_passed_on(self):
        for name, tree in trees().items():
            inside = [node.args[0] for node in ast.walk(tree) if self.is_call_of(node, ("sorted", "len"))]
            for node in ast.walk(tree):
                if isinstance(node, ast.SetComp) or self.is_call_of(node, ("set", "frozenset")):
                    self.assertIn(node, inside, f"{name}: {node.lineno}")

    def test_generator_expressions_stand_in_tuples_alone(self):
        for name, tree in trees().items():
            inside = [node.args[0] for node in ast.walk(tree) if self.is_call_of(node, ("tuple", "list"))]
            for node in ast.walk(tree):
                if isinstance(node, ast.GeneratorExp):
                    self.assertIn(node, inside, f"{name}: {node.lineno}")

    def is_call_of(self, node, names):
        return isinstance(node, ast.Call) and isinstance(node.func, ast.Name) and node.func.id in names and node.args


if __name__ == "__main__":
    unittest.main()
