"""Points 21 and 61: which companies come to a company by a script."""

import unittest

from tests.helpers import Picker, every_company, every_deed, pick_company, pick_script, pick_undone, refuse, slow_done, slow_part
from tests.helpers import wrong_companies, wrong_nameds, wrong_scripts
from twobesides.comings import company_ahead, count_ahead
from twobesides.errors import InvalidCompany, InvalidNamed, InvalidScript, TooMany

EM = ("pairs", 0, (0, 0, 1, 1, 1, 1))
ER = (("pairs", 0, (0, 1, 0, 0, 1, 0)), ("takes", 0, 1, (0, 0, 0, 0)))
ALL = (("pairs", 0, (1, 1, 1, 1, 1, 1)), ("takes", 0, 1, (1, 1, 1, 1)), ("takes", 1, 0, (1, 1, 1, 1)), ("tie", 0, 1, "know"))


def pairs_to(company, script):
    return [ahead for ahead in every_company(company[0]) if slow_done(ahead, script) == company]


class Comings(unittest.TestCase):
    def check(self, named, company, script, ahead):
        self.assertEqual(count_ahead(named, company, script), len(ahead))
        told = company_ahead(named, company, script)
        self.assertEqual(told is None, ahead == [])
        if told is not None:
            self.assertIn(told, ahead)

    def test_all_companies_with_few_people(self):
        picker = Picker(120)
        for named, people, many in ((1, 1, 4), (1, 2, 9), (1, 3, 12), (1, 4, 12), (2, 2, 12), (2, 3, 12), (2, 4, 8), (3, 3, 9), (3, 4, 5)):
            for _ in range(many):
                script = pick_script(picker, named, 1 + picker.below(3), 1)
                behind = {}
                for ahead in every_company(people):
                    behind.setdefault(slow_done(ahead, script), []).append(ahead)
                for company in every_company(people):
                    self.check(named, company, script, behind.get(company, []))

    def test_five_people(self):
        picker = Picker(121)
        found = []
        for named, many in ((1, 4), (2, 8), (3, 4)):
            for _ in range(many):
                script = pick_script(picker, named, 1 + picker.below(2), 1)
                behind = {}
                for ahead in every_company(5):
                    behind.setdefault(slow_done(ahead, script), []).append(ahead)
                for company in every_company(5)[::17] + sorted(behind)[:20]:
                    found.append(company in behind)
                    self.check(named, company, script, behind.get(company, []))
        self.assertGreater(min(found.count(True), found.count(False)), 100)

    def test_each_deed_with_three_besides(self):
        picker = Picker(122)
        for deed in every_deed(1)[::3]:
            company = slow_done(pick_company(picker, 4), (deed,))
            self.check(1, company, (deed,), pairs_to(company, (deed,)))

    def test_six_people(self):
        picker = Picker(123)
        companies = every_company(6)[::61]
        for _ in range(2):
            script = pick_script(picker, 2, 2, 1)
            for company in companies[:6]:
                behind = slow_done(company, script)
                told = company_ahead(2, behind, script)
                self.assertEqual(slow_done(told, script), behind)
                self.assertGreater(count_ahead(2, behind, script), 0)

    def test_four_besides(self):
        picker = Picker(124)
        for named in (1, 2, 3):
            for _ in range(6):
                script = pick_script(picker, named, 2, 1)
                behind = slow_done(pick_company(picker, named + 4), script)
                self.assertEqual(slow_done(company_ahead(named, behind, script), script), behind)
                undone = pick_undone(picker, named, 3)
                self.assertEqual(count_ahead(named, behind, undone), 1)
                self.assertEqual(slow_done(company_ahead(named, behind, undone), undone), behind)
                self.assertEqual(company_ahead(named, behind, ()), behind)

    def test_as_many_as_there_are(self):
        for named in (2, 3):
            for besides in range(5):
                people = named + besides
                company = slow_done((people, ()), ALL)
                self.assertEqual(count_ahead(named, company, ALL), 2 ** (people * (people - 1) // 2))
                self.assertEqual(slow_done(company_ahead(named, company, ALL), ALL), company)

    def test_no_way_for_two_though_one_for_each(self):
        # Two know one another behind it just if one of them knew 0: of three this can not be so of each two.
        script = ER + (("takes", 1, 0, (0, 0, 0, 0)),)
        company = (5, ((2, 3), (2, 4), (3, 4)))
        self.assertIsNone(company_ahead(2, company, script))
        self.assertEqual(count_ahead(2, company, script), 0)
        for pair in ((2, 3), (2, 4), (3, 4)):
            self.assertIsNotNone(company_ahead(2, slow_part(2, company, pair), script))

    def test_five_besides(self):
        for named in (1, 2, 3):
            for function in (company_ahead, count_ahead):
                with self.assertRaises(TooMany) as caught:
                    function(named, (named + 5, ()), ())
                self.assertEqual(caught.exception.limit, 4)
                self.assertRaises(TooMany, function, named, (9, ()), (EM,))
                self.assertRaises(InvalidScript, function, named, (9, ()), ((EM, EM),))
                self.assertRaises(InvalidCompany, function, named, (10, ()), ())

    def test_wrong_arguments(self):
        for named in (1, 2, 3):
            for function in (company_ahead, count_ahead):
                refuse(self, function, [
                    (named, InvalidNamed, wrong_nameds()), ((named + 4, ()), InvalidCompany, wrong_companies(named)),
                    ((), InvalidScript, wrong_scripts(named)),
                ])


if __name__ == "__main__":
    unittest.main()
