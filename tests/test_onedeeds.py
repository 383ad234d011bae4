"""Point 52: scripts that one deed can stand for."""

import unittest

from tests.helpers import Picker, every_deed, pick_deed, pick_script, refuse, slow_table, wrong_nameds, wrong_scripts
from twobesides.errors import InvalidNamed, InvalidScript
from twobesides.onedeeds import one_deed
from twobesides.views import table_of

JJ, KNOW, PART = (("tie", 0, 1, word) for word in ("turn", "know", "part"))


class OneDeed(unittest.TestCase):
    def check(self, named, script, tables, table):
        """Ask for one deed, where the tables of all deeds are told."""
        told = one_deed(named, script)
        if table in tables.values():
            self.assertIn(told, tables)
            self.assertEqual(tables[told], table)
        else:
            self.assertIsNone(told)

    def test_all_deeds_by_themselves(self):
        for named in (1, 2):
            tables = {deed: slow_table(named, (deed,)) for deed in every_deed(named)}
            for deed in tables:
                self.check(named, (deed,), tables, tables[deed])

    def test_picked_scripts(self):
        picker = Picker(50)
        for named in (1, 2):
            tables = {deed: slow_table(named, (deed,)) for deed in every_deed(named)}
            found = []
            for _ in range(120):
                script = pick_script(picker, named, picker.below(3), 1)
                self.check(named, script, tables, slow_table(named, script))
                found.append(one_deed(named, script) is None)
            self.assertEqual(sorted(set(found)), [False, True] if named == 2 else [False])

    def test_two_deeds_for_three_named_ones(self):
        picker = Picker(51)
        tables = {deed: table_of(3, (deed,)) for deed in every_deed(3)}
        for deed in list(tables)[::9]:
            self.check(3, (deed,), tables, tables[deed])
        for _ in range(15):
            script = tuple(pick_deed(picker, 3) for _ in range(2))
            self.check(3, script, tables, table_of(3, script))

    def test_choices(self):
        self.assertIn(one_deed(2, (("ask", 0, 1, (PART,), (KNOW,)),)), (JJ, ("tie", 1, 0, "turn")))
        self.assertIsNone(one_deed(2, (("ask", 0, 1, (("pairs", 0, (0,) * 6),), ()),)))
        told = one_deed(3, (("ask", 1, 2, (("takes", 2, 0, (0, 1, 0, 1)),), (("takes", 2, 0, (0, 1, 0, 1)),)),))
        self.assertEqual(told, ("takes", 2, 0, (0, 1, 0, 1)))

    def test_the_empty_script(self):
        for named in (1, 2, 3):
            told = one_deed(named, ())
            self.assertEqual(table_of(named, (told,)), table_of(named, ()))

    def test_no_deed_of_one_doer_does_what_two_do(self):
        first, second = ("pairs", 0, (0,) * 6), ("pairs", 1, (0,) * 6)
        self.assertIsNone(one_deed(2, (first, second)))
        self.assertIsNone(one_deed(2, (first, JJ)))
        self.assertIsNone(one_deed(3, (("tie", 0, 1, "know"), ("tie", 0, 2, "know"))))

    def test_wrong_arguments(self):
        for named in (1, 2, 3):
            refuse(self, one_deed, [(named, InvalidNamed, wrong_nameds()), ((), InvalidScript, wrong_scripts(named))])


if __name__ == "__main__":
    unittest.main()
