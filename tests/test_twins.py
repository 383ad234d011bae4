"""Points 23 and 65: twins in companies."""

import unittest

from tests.helpers import Picker, every_company, pick_company, refuse, slow_know, wrong_companies, wrong_goals, wrong_nameds
from twobesides.errors import InvalidCompany, InvalidGoal, InvalidNamed
from twobesides.twins import torn_twins, twins_of


def slow_are_twins(company, one, other):
    """Whether two have been exchanged with nothing changed."""
    turned = {one: other, other: one}
    pairs = [(a, b) for a in range(company[0]) for b in range(a)]
    return all(slow_know(company, a, b) == slow_know(company, turned.get(a, a), turned.get(b, b)) for a, b in pairs)


def slow_twins(named, company):
    """By [23]: who is twin to one is so to all twins of this."""
    groups = []
    for person in range(named, company[0]):
        mates = [group for group in groups if any(slow_are_twins(company, person, other) for other in group)]
        groups = [group for group in groups if group not in mates] + [sum(mates, ()) + (person,)]
    return sorted(groups)


def pick_twins(picker, named, people):
    """A company in which some besides know just whom another one knows."""
    company = pick_company(picker, people)
    known = {tie for tie in company[1]}
    for _ in range(picker.below(4)):
        one, other = picker.shuffled(range(named, people))[:2]
        for third in set(range(people)) - {one, other}:
            known.discard(tuple(sorted((other, third))))
            if tuple(sorted((one, third))) in known:
                known.add(tuple(sorted((other, third))))
    return people, tuple(sorted(known))


class Twins(unittest.TestCase):
    def test_all_companies_of_few_people(self):
        for named, people in ((1, 1), (1, 2), (1, 3), (1, 4), (2, 2), (2, 3), (2, 4), (3, 3), (3, 4)):
            for company in every_company(people):
                self.assertEqual(twins_of(named, company), slow_twins(named, company))
        for named in (1, 2, 3):
            for company in every_company(5)[::9]:
                self.assertEqual(twins_of(named, company), slow_twins(named, company))

    def test_picked(self):
        picker = Picker(220)
        most = 0
        for named in (1, 2, 3):
            for _ in range(60):
                company = pick_twins(picker, named, named + 2 + picker.below(8 - named))
                self.assertEqual(twins_of(named, company), slow_twins(named, company))
                most = max(most, len(max(twins_of(named, company), key=len)))
        self.assertGreater(most, 3)

    def test_all_twins_none_and_nobody(self):
        for named in (1, 2, 3):
            self.assertEqual(twins_of(named, (named, ())), [])
            self.assertEqual(twins_of(named, (named + 1, ())), [(named,)])
            self.assertEqual(twins_of(named, (9, ())), [tuple(range(named, 9))])
            self.assertEqual(twins_of(named, (9, ((0, 1),))), [tuple(range(named, 9))] if named > 1 else [(1,), tuple(range(2, 9))])
        self.assertEqual(twins_of(1, (4, ((0, 1), (0, 2), (2, 3)))), [(1,), (2,), (3,)])

    def test_named_ones_are_not_told(self):
        self.assertEqual(twins_of(3, (5, ((0, 3), (1, 3), (2, 3)))), [(3,), (4,)])
        self.assertEqual(twins_of(2, (3, ((0, 1), (0, 2), (1, 2)))), [(2,)])
        # Between two twins it is not asked whether they know one another.
        self.assertEqual(twins_of(1, (3, ((1, 2),))), [(1, 2)])
        self.assertEqual(twins_of(1, (3, ((0, 1), (0, 2)))), [(1, 2)])

    def test_wrong_arguments(self):
        for named in (1, 2, 3):
            refuse(self, twins_of, [(named, InvalidNamed, wrong_nameds()), ((named, ()), InvalidCompany, wrong_companies(named))])


class TornTwins(unittest.TestCase):
    def slow_torn(self, named, company, goal):
        pairs = [(one, other) for one in range(named, company[0]) for other in range(one + 1, company[0])]
        torn = [pair for pair in pairs if slow_are_twins(company, *pair) and not slow_are_twins(goal, *pair)]
        return min(torn, default=None)

    def test_all_companies_of_few_people(self):
        for company in every_company(4):
            for goal in every_company(4):
                self.assertEqual(torn_twins(1, company, goal), self.slow_torn(1, company, goal))
        for company in every_company(4)[::3]:
            for goal in every_company(4):
                self.assertEqual(torn_twins(2, company, goal), self.slow_torn(2, company, goal))

    def test_picked(self):
        picker = Picker(221)
        told = []
        for named in (1, 2, 3):
            for _ in range(80):
                people = named + 2 + picker.below(8 - named)
                company, goal = (pick_twins(picker, named, people) for _ in range(2))
                told.append(torn_twins(named, company, goal))
                self.assertEqual(told[-1], self.slow_torn(named, company, goal))
                self.assertIsNone(torn_twins(named, company, company))
        self.assertGreater(len(set(told)), 12)

    def test_nobody_and_one_besides(self):
        for named in (1, 2, 3):
            for people in (named, named + 1):
                for goal in every_company(people):
                    self.assertIsNone(torn_twins(named, (people, ()), goal))

    def test_wrong_arguments(self):
        for named in (1, 2, 3):
            refuse(self, torn_twins, [
                (named, InvalidNamed, wrong_nameds()), ((named + 2, ()), InvalidCompany, wrong_companies(named)),
                ((named + 2, ()), InvalidGoal, wrong_goals(named, named + 2)),
            ])


if __name__ == "__main__":
    unittest.main()
