"""Points 8 and 46: companies told by their views."""

import unittest
from itertools import combinations, product

from tests.helpers import ANYTHING, Picker, every_company, pick_company, refuse, slow_part
from tests.helpers import wrong_companies, wrong_nameds
from twobesides.companyviews import company_of_views, view_numbers, with_person
from twobesides.errors import InvalidBesides, InvalidCompany, InvalidNamed, InvalidNumber, TooMany


def slow_numbers(named, company):
    views = every_company(named + 2)
    pairs = combinations(range(named, company[0]), 2)
    return tuple(views.index(slow_part(named, company, pair)) for pair in pairs)


class ViewNumbers(unittest.TestCase):
    def test_numbers(self):
        picker = Picker(16)
        for named in (1, 2, 3):
            for people in range(named, 10):
                for company in (pick_company(picker, people), (people, ())):
                    self.assertEqual(view_numbers(named, company), slow_numbers(named, company))

    def test_fewer_than_two_besides(self):
        for named in (1, 2, 3):
            for people in (named, named + 1):
                for company in every_company(people):
                    self.assertEqual(view_numbers(named, company), ())

    def test_one_number_for_each_pair(self):
        for named in (1, 2, 3):
            for people in range(named, 10):
                many = (people - named) * (people - named - 1) // 2
                self.assertEqual(view_numbers(named, (people, ())), (0,) * many)

    def test_wrong_arguments(self):
        for named in (1, 2, 3):
            refuse(self, view_numbers, [
                (named, InvalidNamed, wrong_nameds()), ((named, ()), InvalidCompany, wrong_companies(named)),
            ])


class CompanyOfViews(unittest.TestCase):
    def test_back_from_numbers(self):
        picker = Picker(17)
        for named in (1, 2, 3):
            for besides in range(2, 10 - named):
                for _ in range(4):
                    company = pick_company(picker, named + besides)
                    self.assertEqual(company_of_views(named, besides, slow_numbers(named, company)), company)

    def test_all_numbers_for_three_besides(self):
        companies = {slow_numbers(1, company): company for company in every_company(4)}
        self.assertEqual(len(companies), 64)
        for numbers in product(range(8), repeat=3):
            self.assertEqual(company_of_views(1, 3, numbers), companies.get(numbers))

    def test_each_number_is_of_a_company_with_two_besides(self):
        for named in (1, 2):
            for number, view in enumerate(every_company(named + 2)):
                self.assertEqual(company_of_views(named, 2, (number,)), view)
        self.assertEqual(company_of_views(3, 2, (1023,)), (5, ((3, 4),)))

    def test_one_number_changed(self):
        picker = Picker(18)
        for named in (1, 2, 3):
            for _ in range(20):
                company = pick_company(picker, named + 4)
                numbers = list(slow_numbers(named, company))
                at = picker.below(len(numbers))
                numbers[at] = (numbers[at] + 1) % len(every_company(named + 2))
                told = company_of_views(named, 4, tuple(numbers))
                if told is not None:
                    self.assertEqual(slow_numbers(named, told), tuple(numbers))
                else:
                    self.assertTrue(self.quarrel(named, numbers))

    def quarrel(self, named, numbers):
        """Whether two of the views tell otherwise of two people."""
        views = every_company(named + 2)
        told = {}
        for pair, number in zip(combinations(range(named, named + 4), 2), numbers):
            people = tuple(range(named)) + pair
            for one, other in combinations(range(named + 2), 2):
                told.setdefault((people[one], people[other]), set()).add((one, other) in views[number][1])
        return any(len(words) == 2 for words in told.values())

    def test_wrong_arguments(self):
        for named, views in ((1, 8), (2, 64), (3, 1024)):
            most = 9 - named
            wrong_numbers = ANYTHING + [
                (), (0,), (0, 0), (0,) * 4, [0, 0, 0], (0, 0, views), (0, -1, 0), (0, True, 0), (0, "0", 0), (None,) * 3, 0,
                ((0,), 0, 0), (10 ** 119, 0, 0), "000",
            ]
            refuse(self, company_of_views, [
                (named, InvalidNamed, wrong_nameds()), (3, InvalidNumber, ANYTHING + [0, 1, most + 1, "3", (3,), [3]]),
                ((0, 0, 0), InvalidNumber, wrong_numbers),
            ])

    def test_besides_from_two_to_nine_less_the_named_ones(self):
        for named in (1, 2, 3):
            for besides in range(-1, 12):
                numbers = (0,) * max(0, besides * (besides - 1) // 2)
                if 2 <= besides <= 9 - named:
                    self.assertEqual(company_of_views(named, besides, numbers), (named + besides, ()))
                else:
                    with self.assertRaises(InvalidNumber):
                        company_of_views(named, besides, numbers)


class WithPerson(unittest.TestCase):
    def test_one_person_more(self):
        picker = Picker(19)
        for named in (1, 2, 3):
            for people in range(named, 9):
                for _ in range(5):
                    company = pick_company(picker, people)
                    friends = tuple(person for person in range(people) if picker.below(2))
                    ties = sorted(company[1] + tuple((friend, people) for friend in friends))
                    self.assertEqual(with_person(named, company, friends), (people + 1, tuple(ties)))

    def test_nobody_and_everybody(self):
        self.assertEqual(with_person(1, (1, ()), ()), (2, ()))
        self.assertEqual(with_person(1, (1, ()), (0,)), (2, ((0, 1),)))
        self.assertEqual(with_person(2, (3, ((1, 2),)), (0, 1, 2)), (4, ((0, 3), (1, 2), (1, 3), (2, 3))))
        self.assertEqual(with_person(3, (8, ()), ()), (9, ()))

    def test_nine_are_enough(self):
        for named in (1, 2, 3):
            for friends in ((), (0, 8)):
                with self.assertRaises(TooMany) as caught:
                    with_person(named, (9, ()), friends)
                self.assertEqual(caught.exception.limit, 9)
            for wrong in ((9,), (1, 0), None):
                with self.assertRaises(InvalidBesides):
                    with_person(named, (9, ()), wrong)

    def test_wrong_arguments(self):
        for named in (1, 2, 3):
            wrong = [value for value in ANYTHING if value != ()] + [
                (0, 0), (1, 0), (named + 2,), (-1,), (0, -1), [0, 1], (0, True), (False,), (0, named + 2), ((0, 1),), 0, "0",
                (0, None), (0, (1,)), ("0",), (0, 1, 0), (0, 1, 1),
            ]
            refuse(self, with_person, [
                (named, InvalidNamed, wrong_nameds()), ((named + 2, ()), InvalidCompany, wrong_companies(named)),
                ((0, 1), InvalidBesides, wrong),
            ])


if __name__ == "__main__":
    unittest.main()
