"""The examples of the document, as they stand there."""

import doctest
import unittest
from importlib import import_module
from pathlib import Path

MODULES = {
    42: "companies", 43: "scripts", 44: "doing", 45: "views", 46: "companyviews", 47: "plaincompanies", 48: "opposites",
    49: "companytexts", 50: "alikes", 51: "needless", 52: "onedeeds", 53: "closedrows", 54: "barredlots",
    55: "barredlots", 56: "barredahead", 57: "barredahead", 58: "onetoones", 59: "rounds", 60: "roots", 61: "comings",
    62: "stayings", 63: "leadings", 64: "jointways", 65: "twins", 66: "forgetting", 67: "wishes", 68: "starts", 69: "arms",
    70: "ahead", 71: "weavings", 72: "stops", 73: "summaries", 74: "summariesled", 75: "tiecounts", 76: "mostties",
    77: "supplies", 78: "tellings", 79: "sided", 80: "sidedalike", 81: "daybooks", 82: "guests", 83: "hosts",
}


def told_examples():
    """The rows of examples.txt, as triples (point, row behind >>>, row below, or "")."""
    examples = []
    for row in (Path(__file__).parent / "examples.txt").read_text().splitlines():
        if row.startswith("[") and row[1:-1].isdigit():
            point = int(row[1:-1])
        elif row.startswith(">>> "):
            examples.append((point, row[4:], ""))
        else:
            examples[-1] = examples[-1][:2] + (row,)
    return examples


class Examples(unittest.TestCase):
    def test_examples(self):
        names = {}
        for point, row, told in told_examples():
            module = import_module("twobesides." + MODULES[point])
            names.update({name: value for name, value in vars(module).items() if callable(value)})
            with self.subTest(row=row):
                self.check(row, told, names)

    def check(self, row, told, names):
        if told == "":
            exec(row, names)
        elif told.startswith("raises "):
            with self.assertRaises(ValueError) as caught:
                eval(row, names)
            self.assertEqual(f"raises {type(caught.exception).__name__}({caught.exception.at})", told)
        else:
            self.assertEqual(repr(eval(row, names)), told)

    def test_each_module_has_examples(self):
        self.assertEqual(sorted({point for point, _, _ in told_examples()}), sorted(MODULES))

    def test_readme(self):
        failed, tried = doctest.testfile(str(Path(__file__).parent.parent / "README.md"), module_relative=False)
        self.assertEqual(failed, 0)
        self.assertGreater(tried, 0)


if __name__ == "__main__":
    unittest.main()
