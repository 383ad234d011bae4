"""Points 9 and 47: orders of people besides, plain companies, and numbers of companies."""

import unittest
from fractions import Fraction
from itertools import combinations, permutations
from math import gcd

from tests.helpers import ANYTHING, Picker, every_company, pick_company, refuse, slow_part
from tests.helpers import wrong_companies, wrong_nameds
from twobesides.errors import InvalidCompany, InvalidNamed, InvalidNumber, TooMany
from twobesides.plaincompanies import company_at, company_number, count_own_orders, count_unlike, plain_company


def slow_orders(named, company):
    """The company in all orders of its people besides."""
    return [slow_part(named, company, order) for order in permutations(range(named, company[0]))]


def picked_companies(seed, most_besides):
    picker = Picker(seed)
    for named in (1, 2, 3):
        for besides in range(most_besides + 1):
            for _ in range(3 if besides > 4 else 12):
                yield named, pick_company(picker, named + besides)


class PlainCompanies(unittest.TestCase):
    def test_plain_company_is_the_first_of_all_orders(self):
        for named, company in picked_companies(30, 5):
            self.assertEqual(plain_company(named, company), min(slow_orders(named, company)))

    def test_companies_alike_but_for_order_have_one_plain_company(self):
        for named, company in picked_companies(31, 4):
            self.assertEqual({plain_company(named, other) for other in slow_orders(named, company)}, {min(slow_orders(named, company))})

    def test_own_orders(self):
        for named, company in picked_companies(32, 5):
            self.assertEqual(count_own_orders(named, company), slow_orders(named, company).count(company))

    def test_nobody_besides(self):
        for named in (1, 2, 3):
            for company in every_company(named):
                self.assertEqual(plain_company(named, company), company)
                self.assertEqual(count_own_orders(named, company), 1)

    def test_no_ties_and_all_ties(self):
        for named in (1, 2, 3):
            for besides, orders in enumerate((1, 1, 2, 6, 24, 120)):
                people = named + besides
                for company in ((people, ()), (people, tuple(combinations(range(people), 2)))):
                    self.assertEqual(plain_company(named, company), company)
                    self.assertEqual(count_own_orders(named, company), orders)

    def test_named_ones_stay(self):
        self.assertEqual(plain_company(2, (2, ((0, 1),))), (2, ((0, 1),)))
        self.assertEqual(plain_company(2, (3, ((1, 2),))), (3, ((1, 2),)))
        self.assertEqual(plain_company(1, (3, ((0, 2),))), (3, ((0, 1),)))

    def test_five_besides_and_six(self):
        for named in (1, 2, 3):
            self.assertEqual(plain_company(named, (named + 5, ())), (named + 5, ()))
            self.assertEqual(count_own_orders(named, (named + 5, ())), 120)
            for function in (plain_company, count_own_orders):
                for people in range(named + 6, 10):
                    with self.assertRaises(TooMany) as caught:
                        function(named, (people, ()))
                    self.assertEqual(caught.exception.limit, 5)

    def test_wrong_arguments(self):
        for named in (1, 2, 3):
            for function in (plain_company, count_own_orders, company_number):
                refuse(self, function, [
                    (named, InvalidNamed, wrong_nameds()),
                    ((named, ()), InvalidCompany, wrong_companies(named) + [(named + 6, ((1, 0),)), (9, ((0, 9),))]),
                ])


class Numbers(unittest.TestCase):
    def test_number_is_a_sum_over_all_ties(self):
        picker = Picker(33)
        for named in (1, 2, 3):
            for people in range(named, 10):
                company = pick_company(picker, people)
                pairs = list(combinations(range(people), 2))
                number = sum(2 ** pairs.index(tie) for tie in company[1])
                self.assertEqual(company_number(named, company), number)
                self.assertEqual(company_at(named, people, number), company)

    def test_all_numbers_of_four_people(self):
        for named in (1, 2, 3):
            companies = [company_at(named, 4, number) for number in range(64)]
            self.assertEqual(sorted(companies), every_company(4))
            self.assertEqual([company_number(named, company) for company in companies], list(range(64)))

    def test_least_and_greatest_number_and_one_more(self):
        for named in (1, 2, 3):
            for people in range(named, 10):
                many = people * (people - 1) // 2
                everybody = (people, tuple(combinations(range(people), 2)))
                self.assertEqual(company_at(named, people, 0), (people, ()))
                self.assertEqual(company_at(named, people, 2 ** many - 1), everybody)
                self.assertEqual(company_number(named, (people, ())), 0)
                self.assertEqual(company_number(named, everybody), 2 ** many - 1)
                for wrong in (2 ** many, -1):
                    with self.assertRaises(InvalidNumber):
                        company_at(named, people, wrong)

    def test_wrong_arguments(self):
        for named in (1, 2, 3):
            people = named + 2
            greatest = 2 ** (people * (people - 1) // 2) - 1
            refuse(self, company_at, [
                (named, InvalidNamed, wrong_nameds()),
                (people, InvalidNumber, ANYTHING + [named - 1, 10, "3", (3,), [3], ()]),
                (0, InvalidNumber, ANYTHING + [greatest + 1, "0", (0,), ()]),
            ])


class CountUnlike(unittest.TestCase):
    def test_counted_one_by_one(self):
        for named, most in ((1, 3), (2, 3), (3, 2)):
            for besides in range(most + 1):
                kinds = {min(slow_orders(named, company)) for company in every_company(named + besides)}
                self.assertEqual(count_unlike(named, besides), len(kinds))

    def test_counted_by_own_orders(self):
        companies = every_company(5)
        own = sum(slow_orders(1, company).count(company) for company in companies)
        self.assertEqual(count_unlike(1, 4), own // 24)

    def test_nobody_and_one(self):
        self.assertEqual([count_unlike(named, 0) for named in (1, 2, 3)], [1, 2, 8])
        self.assertEqual([count_unlike(named, 1) for named in (1, 2, 3)], [2, 8, 64])

    def test_companies_with_one_named_one_are_graphs_with_a_root(self):
        # How many graphs with so many points and a root there are, but for the names of the others.
        self.assertEqual([count_unlike(1, besides) for besides in range(8)], [1, 2, 6, 20, 90, 544, 5096, 79264])

    def test_twenty(self):
        for named in (1, 2, 3):
            pairs = (20 + named) * (19 + named) // 2
            orders = 1
            for number in range(1, 21):
                orders *= number
            told = count_unlike(named, 20)
            self.assertEqual(told, slow_unlike(named, 20))
            # Few companies are themselves in more than one order.
            self.assertLess(2 ** pairs // orders, told)
            self.assertLess(told, 2 ** pairs // orders * 101 // 100)

    def test_up_to_nineteen(self):
        for named in (1, 2, 3):
            for besides in range(20):
                self.assertEqual(count_unlike(named, besides), slow_unlike(named, besides))

    def test_wrong_arguments(self):
        wrong = ANYTHING + [21, "2", (2,), [2], ()]
        for named in (1, 2, 3):
            refuse(self, count_unlike, [(named, InvalidNamed, wrong_nameds()), (2, InvalidNumber, wrong)])


def slow_unlike(named, besides):
    """Companies but for order, counted by how many rings of each length an order has."""
    def go(left, length, rings, weight):
        if left == 0:
            return weight * 2 ** ties(rings)
        if length == 0:
            return 0
        whole, weighed = Fraction(0), weight
        for many in range(left // length + 1):
            whole += go(left - many * length, length - 1, rings + [length] * many, weighed)
            weighed = weighed / (length * (many + 1))
        return whole

    def ties(rings):
        lengths = [1] * named + rings
        within = sum(length // 2 for length in lengths)
        return within + sum(gcd(one, other) for one, other in combinations(lengths, 2))

    whole = go(besides, besides, [], Fraction(1))
    assert whole.denominator == 1
    return whole.numerator


if __name__ == "__main__":
    unittest.main()
