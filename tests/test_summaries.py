"""Points 29, 30 and 73: kinds, summaries of companies, and companies with a summary."""

import unittest

from tests.helpers import Picker, every_company, every_start, pick_company, pick_summary, refuse, slow_kind_pairs, slow_pairs_of
from tests.helpers import slow_summary, wrong_companies, wrong_nameds, wrong_summaries
from twobesides.errors import InvalidCompany, InvalidNamed, InvalidSummary, TooMany
from twobesides.summaries import company_for, is_summary, summary_of, ties_of_summary


class Summaries(unittest.TestCase):
    def test_picked(self):
        picker = Picker(330)
        for named in (1, 2, 3):
            for _ in range(100):
                summary = pick_summary(picker, named, 1 + picker.below(12))
                self.assertIs(is_summary(named, summary), True)
                for other in (1, 2, 3):
                    if other != named:
                        self.assertIs(is_summary(other, summary), False)

    def test_numbers_at_the_limits(self):
        for named in (1, 2, 3):
            kinds, pairs = 2 ** named, slow_kind_pairs(named)
            for many in (0, 1, 2, 10 ** 30):
                numbers = (many,) * kinds
                full = tuple(slow_pairs_of(numbers, pair) for pair in pairs)
                self.assertIs(is_summary(named, ((), numbers, full)), True)
                self.assertIs(is_summary(named, ((), numbers, (0,) * len(pairs))), True)
                for at in range(len(pairs)):
                    self.assertIs(is_summary(named, ((), numbers, full[:at] + (full[at] + 1,) + full[at + 1:])), False)
            for at in range(kinds):
                numbers = (1,) * at + (10 ** 30 + 1,) + (1,) * (kinds - at - 1)
                self.assertIs(is_summary(named, ((), numbers, (0,) * len(pairs))), False)

    def test_places_of_pairs_of_kinds(self):
        self.assertIs(is_summary(1, ((), (3, 2), (3, 6, 1))), True)
        for tied in ((4, 6, 1), (3, 7, 1), (3, 6, 2), (6, 3, 1), (3, 6), (3, 6, 1, 0)):
            self.assertIs(is_summary(1, ((), (3, 2), tied)), False)
        numbers = (1, 2, 3, 4)
        self.assertIs(is_summary(2, ((), numbers, (0, 2, 3, 4, 1, 6, 8, 3, 12, 6))), True)
        self.assertIs(is_summary(2, ((), numbers, (0, 2, 3, 4, 6, 1, 8, 3, 12, 6))), False)

    def test_ties_between_named_ones(self):
        for named in (1, 2, 3):
            numbers, tied = (0,) * 2 ** named, (0,) * len(slow_kind_pairs(named))
            for _, own in every_start(3):
                self.assertIs(is_summary(named, (own, numbers, tied)), (named, own) in every_start(named))

    def test_other_values(self):
        for named in (1, 2, 3):
            for value in wrong_summaries(named):
                self.assertIs(is_summary(named, value), False, value)
        for value in wrong_nameds():
            self.assertRaises(InvalidNamed, is_summary, value, ())


class SummaryOf(unittest.TestCase):
    def test_picked(self):
        picker = Picker(331)
        for named in (1, 2, 3):
            for people in range(named, 10):
                for _ in range(12):
                    company = pick_company(picker, people)
                    self.assertEqual(summary_of(named, company), slow_summary(named, company))
                    self.assertIs(is_summary(named, summary_of(named, company)), True)

    def test_few_people(self):
        for named, people in ((1, 1), (1, 2), (1, 3), (1, 4), (2, 2), (2, 3), (2, 4), (3, 3), (3, 4)):
            for company in every_company(people):
                self.assertEqual(summary_of(named, company), slow_summary(named, company))

    def test_nobody_besides(self):
        self.assertEqual(summary_of(1, (1, ())), ((), (0, 0), (0, 0, 0)))
        self.assertEqual(summary_of(3, (3, ((0, 2),)))[:2], (((0, 2),), (0,) * 8))

    def test_kinds_go_by_the_numbers_of_named_ones(self):
        self.assertEqual(summary_of(3, (4, ((0, 3),)))[1], (0, 1, 0, 0, 0, 0, 0, 0))
        self.assertEqual(summary_of(3, (4, ((1, 3), (2, 3))))[1], (0, 0, 0, 0, 0, 0, 1, 0))
        # The one with the greater kind may stand ahead of the other one.
        self.assertEqual(summary_of(1, (3, ((0, 1), (1, 2)))), ((), (1, 1), (0, 1, 0)))
        self.assertEqual(summary_of(1, (3, ((0, 2), (1, 2)))), ((), (1, 1), (0, 1, 0)))

    def test_wrong_arguments(self):
        for named in (1, 2, 3):
            refuse(self, summary_of, [(named, InvalidNamed, wrong_nameds()), ((named, ()), InvalidCompany, wrong_companies(named))])


class Ties(unittest.TestCase):
    def test_of_companies(self):
        picker = Picker(332)
        for named in (1, 2, 3):
            for _ in range(80):
                company = pick_company(picker, named + picker.below(10 - named))
                self.assertEqual(ties_of_summary(named, slow_summary(named, company)), len(company[1]))

    def test_of_companies_of_more_people(self):
        picker = Picker(333)
        for named in (1, 2, 3):
            for _ in range(10):
                company = pick_company(picker, 10 + picker.below(10))
                self.assertEqual(ties_of_summary(named, slow_summary(named, company)), len(company[1]))

    def test_great_numbers(self):
        many = 10 ** 30
        self.assertEqual(ties_of_summary(1, ((), (many, many), (0, 0, 0))), many)
        self.assertEqual(ties_of_summary(1, ((), (many, many), (1, many * many, 2))), many + many * many + 3)
        numbers = (many,) * 8
        full = tuple(slow_pairs_of(numbers, pair) for pair in slow_kind_pairs(3))
        everyone = 8 * many
        self.assertEqual(ties_of_summary(3, (((0, 1), (1, 2)), numbers, full)), 2 + 12 * many + everyone * (everyone - 1) // 2)

    def test_wrong_arguments(self):
        for named in (1, 2, 3):
            good = ((), (0,) * 2 ** named, (0,) * len(slow_kind_pairs(named)))
            for function in (ties_of_summary, company_for):
                refuse(self, function, [(named, InvalidNamed, wrong_nameds()), (good, InvalidSummary, wrong_summaries(named))])


class CompanyFor(unittest.TestCase):
    def test_picked(self):
        picker = Picker(334)
        for named in (1, 2, 3):
            for _ in range(80):
                summary = slow_summary(named, pick_company(picker, named + picker.below(10 - named)))
                company = company_for(named, summary)
                self.assertEqual(company[0], named + sum(summary[1]))
                self.assertEqual(company[1], tuple(sorted(set(company[1]))))
                self.assertTrue(all(0 <= one < other < company[0] for one, other in company[1]))
                self.assertEqual(slow_summary(named, company), summary)

    def test_nine_people_and_ten(self):
        for named in (1, 2, 3):
            pairs = slow_kind_pairs(named)
            for kind in range(2 ** named):
                for many, wrong in ((9 - named, False), (10 - named, True), (10 ** 30, True)):
                    numbers = (0,) * kind + (many,) + (0,) * (2 ** named - kind - 1)
                    for tied in ((0,) * len(pairs), tuple(slow_pairs_of(numbers, pair) for pair in pairs)):
                        if wrong:
                            with self.assertRaises(TooMany) as caught:
                                company_for(named, ((), numbers, tied))
                            self.assertEqual(caught.exception.limit, 9)
                        else:
                            self.assertEqual(slow_summary(named, company_for(named, ((), numbers, tied))), ((), numbers, tied))

    def test_named_ones_count_among_the_people(self):
        self.assertEqual(company_for(1, ((), (8, 0), (0, 0, 0))), (9, ()))
        self.assertRaises(TooMany, company_for, 1, ((), (8, 1), (0, 0, 0)))
        self.assertRaises(TooMany, company_for, 2, (((0, 1),), (8, 0, 0, 0), (0,) * 10))

    def test_nobody_besides(self):
        for named in (1, 2, 3):
            for start in every_start(named):
                self.assertEqual(company_for(named, (start[1], (0,) * 2 ** named, (0,) * len(slow_kind_pairs(named)))), start)


if __name__ == "__main__":
    unittest.main()
