"""Points 7 and 45: views, their numbers, and tables."""

import unittest

from tests.helpers import Picker, every_company, pick_deed, pick_script, refuse, slow_table
from tests.helpers import wrong_companies, wrong_nameds, wrong_scripts
from twobesides.errors import InvalidCompany, InvalidNamed, InvalidScript, NotTwo
from twobesides.views import table_of, view_number, views_of


class Views(unittest.TestCase):
    def test_all_views_in_order(self):
        for named, many in ((1, 8), (2, 64), (3, 1024)):
            views = views_of(named)
            self.assertEqual(len(views), many)
            self.assertEqual(views, every_company(named + 2))
            self.assertEqual(views, sorted(views))

    def test_the_list_is_new(self):
        views_of(1).clear()
        self.assertEqual(len(views_of(1)), 8)
        self.assertIsNot(views_of(2), views_of(2))

    def test_numbers(self):
        for named in (1, 2, 3):
            for number, view in enumerate(every_company(named + 2)):
                if named < 3 or number % 7 == 0 or number == 1023:
                    self.assertEqual(view_number(named, view), number)

    def test_other_companies_have_no_number(self):
        for named in (1, 2, 3):
            for people in range(named, 10):
                if people != named + 2:
                    with self.assertRaises(NotTwo):
                        view_number(named, (people, ()))

    def test_wrong_arguments(self):
        refuse(self, views_of, [(1, InvalidNamed, wrong_nameds())])
        for named in (1, 2, 3):
            rows = [
                (named, InvalidNamed, wrong_nameds()),
                ((named + 2, ()), InvalidCompany, wrong_companies(named)),
            ]
            refuse(self, view_number, rows)


class Tables(unittest.TestCase):
    def test_tables(self):
        picker = Picker(14)
        for named, many in ((1, 60), (2, 30), (3, 4)):
            for _ in range(many):
                script = pick_script(picker, named, picker.below(5))
                self.assertEqual(table_of(named, script), slow_table(named, script))

    def test_a_long_script(self):
        picker = Picker(15)
        for named in (1, 2):
            script = tuple(pick_deed(picker, named) for _ in range(30))
            self.assertEqual(table_of(named, script), slow_table(named, script))

    def test_table_of_the_empty_script(self):
        for named, many in ((1, 8), (2, 64), (3, 1024)):
            self.assertEqual(table_of(named, ()), tuple(range(many)))

    def test_wrong_arguments(self):
        for named in (1, 2, 3):
            refuse(self, table_of, [(named, InvalidNamed, wrong_nameds()), ((), InvalidScript, wrong_scripts(named))])


if __name__ == "__main__":
    unittest.main()
