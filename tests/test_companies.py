"""Points 4, 7 and 42: companies and their parts."""

import unittest
from itertools import combinations, permutations

from tests.helpers import Picker, every_company, pick_company, refuse, slow_know, slow_part
from tests.helpers import wrong_besides, wrong_companies, wrong_nameds, wrong_people
from twobesides.companies import do_know, is_company, known_to, part_of
from twobesides.errors import InvalidBesides, InvalidCompany, InvalidNamed, InvalidPerson

P = (4, ((0, 2), (1, 3)))


class IsCompany(unittest.TestCase):
    def test_each_company_is_one(self):
        for named in (1, 2, 3):
            for people in range(named, 5):
                for company in every_company(people):
                    self.assertIs(is_company(named, company), True)

    def test_as_many_people_as_named_ones_up_to_nine(self):
        for named in (1, 2, 3):
            for people in range(-1, 12):
                everybody = tuple(combinations(range(people), 2)) if people > 0 else ()
                for ties in ((), everybody):
                    self.assertIs(is_company(named, (people, ties)), named <= people <= 9)

    def test_other_values_are_none(self):
        for named in (1, 2, 3):
            for value in wrong_companies(named):
                self.assertIs(is_company(named, value), False)

    def test_ties_must_be_ascending(self):
        for ties in permutations(((0, 1), (0, 2), (1, 2))):
            self.assertIs(is_company(1, (3, ties)), list(ties) == sorted(ties))
            self.assertIs(is_company(1, (3, ties[:2])), ties[0] < ties[1])

    def test_ties_are_of_people_who_are_there(self):
        for one in range(-1, 5):
            for other in range(-1, 5):
                self.assertIs(is_company(2, (4, ((one, other),))), 0 <= one < other < 4)

    def test_wrong_number_of_named_ones(self):
        for value in wrong_nameds():
            with self.assertRaises(InvalidNamed):
                is_company(value, None)


class Knowing(unittest.TestCase):
    def test_do_know(self):
        picker = Picker(1)
        for named in (1, 2, 3):
            for people in (named, named + 1, 6, 9):
                company = pick_company(picker, people)
                for one, other in permutations(range(people), 2):
                    self.assertIs(do_know(named, company, one, other), slow_know(company, one, other))

    def test_known_to(self):
        picker = Picker(2)
        for named in (1, 2, 3):
            for people in (named, named + 1, 6, 9):
                company = pick_company(picker, people)
                for person in range(people):
                    friends = [other for other in range(people) if other != person and slow_know(company, person, other)]
                    self.assertEqual(known_to(named, company, person), tuple(friends))

    def test_no_ties_and_all_ties(self):
        for named in (1, 2, 3):
            self.assertEqual(known_to(named, (9, ()), 4), ())
            everybody = (9, tuple(combinations(range(9), 2)))
            self.assertEqual(known_to(named, everybody, 4), (0, 1, 2, 3, 5, 6, 7, 8))
            self.assertIs(do_know(named, everybody, 8, 0), True)
            self.assertIs(do_know(named, (9, ()), 8, 0), False)

    def test_wrong_arguments(self):
        for named in (1, 2, 3):
            company = (named + 2, ((0, 1),))
            rows = [
                (named, InvalidNamed, wrong_nameds()), (company, InvalidCompany, wrong_companies(named)),
                (0, InvalidPerson, wrong_people(named + 2)),
            ]
            refuse(self, known_to, rows)
            refuse(self, do_know, rows + [(1, InvalidPerson, wrong_people(named + 2) + [0])])

    def test_the_same_person_twice(self):
        for person in range(4):
            with self.assertRaises(InvalidPerson):
                do_know(2, P, person, person)


class Parts(unittest.TestCase):
    def test_parts_for_all_tuples_of_besides(self):
        picker = Picker(3)
        for named in (1, 2, 3):
            company = pick_company(picker, named + 4)
            for many in range(5):
                for besides in permutations(range(named, named + 4), many):
                    self.assertEqual(part_of(named, company, besides), slow_part(named, company, besides))

    def test_part_for_nobody_one_and_all(self):
        self.assertEqual(part_of(2, P, ()), (2, ()))
        self.assertEqual(part_of(1, P, ()), (1, ()))
        self.assertEqual(part_of(3, P, ()), (3, ((0, 2),)))
        self.assertEqual(part_of(1, P, (3,)), (2, ()))
        self.assertEqual(part_of(1, P, (1, 2, 3)), P)
        self.assertEqual(part_of(1, P, (2, 1, 3)), (4, ((0, 1), (2, 3))))
        self.assertEqual(part_of(1, P, (3, 1, 2)), (4, ((0, 3), (1, 2))))

    def test_part_for_eight(self):
        company = pick_company(Picker(4), 9)
        self.assertEqual(part_of(1, company, tuple(range(1, 9))), company)
        turned = tuple(range(8, 0, -1))
        self.assertEqual(part_of(1, part_of(1, company, turned), turned), company)

    def test_wrong_arguments(self):
        for named in (1, 2, 3):
            people = named + 2
            refuse(self, part_of, [
                (named, InvalidNamed, wrong_nameds()), ((people, ((0, 1),)), InvalidCompany, wrong_companies(named)),
                ((named,), InvalidBesides, wrong_besides(named, people)),
            ])

    def test_nobody_besides_lets_only_the_empty_tuple(self):
        self.assertEqual(part_of(3, (3, ((0, 1),)), ()), (3, ((0, 1),)))
        with self.assertRaises(InvalidBesides):
            part_of(3, (3, ((0, 1),)), (3,))


if __name__ == "__main__":
    unittest.main()
