"""Points 25 and 68: starts, and the rows of scripts for them."""

import unittest

from tests.helpers import Picker, deep_script, every_company, pick_company, pick_script, refuse, slow_deeds, slow_part
from tests.helpers import wrong_companies, wrong_nameds, wrong_scripts
from twobesides.errors import InvalidCompany, InvalidNamed, InvalidScript
from twobesides.starts import drawn_rows, start_number, starts_of

GX, GY = ("tie", 0, 1, "turn"), ("tie", 0, 1, "know")


class Starts(unittest.TestCase):
    def test_all_starts(self):
        self.assertEqual(starts_of(1), [(1, ())])
        self.assertEqual(starts_of(2), [(2, ()), (2, ((0, 1),))])
        self.assertEqual(starts_of(3), [
            (3, ()), (3, ((0, 1),)), (3, ((0, 1), (0, 2))), (3, ((0, 1), (0, 2), (1, 2))), (3, ((0, 1), (1, 2))), (3, ((0, 2),)),
            (3, ((0, 2), (1, 2))), (3, ((1, 2),)),
        ])

    def test_each_list_is_new(self):
        starts_of(2).clear()
        self.assertEqual(len(starts_of(2)), 2)

    def test_wrong_arguments(self):
        refuse(self, starts_of, [(1, InvalidNamed, wrong_nameds())])
        for named in (1, 2, 3):
            refuse(self, start_number, [(named, InvalidNamed, wrong_nameds()), ((named, ()), InvalidCompany, wrong_companies(named))])
            refuse(self, drawn_rows, [(named, InvalidNamed, wrong_nameds()), ((), InvalidScript, wrong_scripts(named))])


class StartNumbers(unittest.TestCase):
    def test_starts_themselves(self):
        for named in (1, 2, 3):
            self.assertEqual([start_number(named, start) for start in starts_of(named)], list(range(len(starts_of(named)))))

    def test_picked(self):
        picker = Picker(230)
        for named in (1, 2, 3):
            for _ in range(60):
                company = pick_company(picker, named + picker.below(10 - named))
                start = slow_part(named, company, ())
                self.assertEqual(start_number(named, company), every_company(named).index(start))


class DrawnRows(unittest.TestCase):
    def test_picked(self):
        picker = Picker(231)
        kinds = set()
        for named in (1, 2, 3):
            for _ in range(80):
                script = pick_script(picker, named, picker.below(4), 3)
                rows = drawn_rows(named, script)
                self.assertEqual(rows, tuple(tuple(slow_deeds(start, script)[0]) for start in every_company(named)))
                kinds.add(len(set(rows)))
        self.assertGreaterEqual(len(kinds), 5)

    def test_no_items_and_no_choices(self):
        for named in (1, 2, 3):
            many = len(starts_of(named))
            self.assertEqual(drawn_rows(named, ()), ((),) * many)
            script = (("pairs", 0, (0, 1, 0, 1, 0, 1)),) * 30
            self.assertEqual(drawn_rows(named, script), (script,) * many)

    def test_choices(self):
        script = (("ask", 1, 0, (GX, ("ask", 0, 1, (GX,), (GY,))), (("ask", 0, 1, (GX,), ()),)), GX)
        self.assertEqual(drawn_rows(2, script), ((GX,), (GX, GY, GX)))
        self.assertEqual(drawn_rows(3, script)[:2], ((GX,), (GX, GY, GX)))
        self.assertEqual(drawn_rows(2, deep_script(4)), ((), ()))

    def test_rows_hold_for_all_companies_with_a_start(self):
        picker = Picker(232)
        for named in (2, 3):
            for _ in range(40):
                script = pick_script(picker, named, 3, 2)
                company = pick_company(picker, named + picker.below(6))
                row = drawn_rows(named, script)[start_number(named, company)]
                self.assertEqual(row, tuple(slow_deeds(company, script)[0]))


if __name__ == "__main__":
    unittest.main()
