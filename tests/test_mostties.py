"""Point 76: how many ties a script leaves at most and at least."""

import unittest
from itertools import combinations_with_replacement

from tests.helpers import Picker, every_company, every_start, pick_company, pick_script, refuse, slow_done, slow_kind_pairs
from tests.helpers import wrong_nameds, wrong_numbers, wrong_scripts
from tests.test_summariesled import slow_form
from twobesides.errors import InvalidNamed, InvalidNumber, InvalidScript
from twobesides.mostties import least_ties, most_ties

FLIP, HZ = ("pairs", 0, (1, 1, 1, 0, 0, 0)), ("pairs", 0, (0, 0, 1, 1, 1, 0))


def slow_best(named, script, besides, best):
    """The greatest, or the least, number of ties, by all numbers of people of each kind and the forms of the script."""
    told = []
    for _, own in every_start(named):
        first, ones, twos = slow_form(named, script, own)
        gives = {pair: best(two) for pair, two in zip(slow_kind_pairs(named), twos)}
        for kinds in combinations_with_replacement(range(2 ** named), besides):
            pairs = [gives[kinds[one], kinds[other]] for other in range(besides) for one in range(other)]
            told.append(first + sum(ones[kind] for kind in kinds) + sum(pairs))
    return best(told)


class MostTies(unittest.TestCase):
    def check(self, named, script, besides, most, least):
        for function, number in ((most_ties, most), (least_ties, least)):
            told = function(named, script, besides)
            self.assertIsInstance(told, tuple)
            self.assertEqual(told[0], number)
            people, ties = told[1]
            self.assertEqual(people, named + besides)
            self.assertEqual(ties, tuple(sorted(set(ties))))
            self.assertTrue(all(0 <= one < other < people for one, other in ties))
            self.assertEqual(len(slow_done(told[1], script)[1]), number)

    def test_all_companies(self):
        picker = Picker(360)
        for named, besides, many in ((1, 0, 3), (1, 1, 10), (1, 2, 20), (1, 3, 15), (1, 4, 3), (2, 0, 10), (2, 1, 20), (2, 2, 20),
                                     (2, 3, 3), (3, 0, 10), (3, 1, 20), (3, 2, 3)):
            for _ in range(many):
                script = pick_script(picker, named, picker.below(4))
                told = [len(slow_done(company, script)[1]) for company in every_company(named + besides)]
                self.check(named, script, besides, max(told), min(told))

    def test_all_numbers_of_people_of_each_kind(self):
        picker = Picker(361)
        for named, many in ((1, 20), (2, 12), (3, 3)):
            for _ in range(many):
                script = pick_script(picker, named, 1 + picker.below(4))
                for besides in (3, 4, 5, 6) if named < 3 else (3, 6):
                    self.check(named, script, besides, slow_best(named, script, besides, max), slow_best(named, script, besides, min))

    def test_kinds_that_go_side_by_side(self):
        # Only people of unlike kinds know one another behind it, or only people of one kind.
        for named in (1, 2, 3):
            for answers in ((0, 1, 0, 0, 1, 0), (1, 0, 1, 1, 0, 1), (0, 1, 1, 0, 1, 1), (1, 1, 0, 1, 1, 0), (0, 1, 0, 1, 0, 1)):
                for script in ((("pairs", 0, answers),), (("pairs", named - 1, answers), HZ)):
                    for besides in (4, 5, 6) if named < 3 else (6,):
                        self.check(named, script, besides, slow_best(named, script, besides, max),
                                   slow_best(named, script, besides, min))

    def test_three_kinds_side_by_side(self):
        # Whom the first one knows and whom the second one knows differ: each two unlike kinds know one another.
        script = (("pairs", 0, (0, 1, 0, 0, 1, 0)), ("pairs", 1, (0, 1, 0, 1, 1, 1)))
        self.check(2, script, 6, slow_best(2, script, 6, max), slow_best(2, script, 6, min))
        script = script + (("pairs", 2, (0, 1, 0, 1, 1, 1)), ("takes", 0, 1, (0, 0, 0, 0)), ("takes", 1, 0, (0, 0, 0, 0)))
        self.check(3, script, 6, slow_best(3, script, 6, max), slow_best(3, script, 6, min))

    def test_nobody_besides(self):
        for named in (1, 2, 3):
            many = named * (named - 1) // 2
            self.check(named, (), 0, many, 0)
            self.check(named, (FLIP,) * 30, 0, many, 0)
        self.check(2, (("tie", 0, 1, "part"),), 0, 0, 0)
        self.check(2, (("ask", 0, 1, (), (("tie", 0, 1, "know"),)),), 0, 1, 1)

    def test_no_items(self):
        for named in (1, 2, 3):
            for besides in range(7):
                people = named + besides
                self.check(named, (), besides, people * (people - 1) // 2, 0)

    def test_thirty_deeds_with_six_besides(self):
        picker = Picker(362)
        for named in (1, 2, 3):
            for _ in range(3):
                script = pick_script(picker, named, 30, 0)
                most, least = most_ties(named, script, 6)[0], least_ties(named, script, 6)[0]
                self.check(named, script, 6, most, least)
                for _ in range(20):
                    ties = len(slow_done(pick_company(picker, named + 6), script)[1])
                    self.assertTrue(least <= ties <= most)

    def test_besides_at_the_limits(self):
        for named in (1, 2, 3):
            for function in (most_ties, least_ties):
                for besides in (0, 6):
                    self.assertEqual(function(named, (), besides)[1][0], named + besides)
                for besides in (-1, 7, True):
                    self.assertRaises(InvalidNumber, function, named, (), besides)

    def test_wrong_arguments(self):
        for named in (1, 2, 3):
            for function in (most_ties, least_ties):
                refuse(self, function, [
                    (named, InvalidNamed, wrong_nameds()), ((), InvalidScript, wrong_scripts(named)),
                    (2, InvalidNumber, wrong_numbers(6)),
                ])


if __name__ == "__main__":
    unittest.main()
