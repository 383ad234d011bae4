"""Point 75: scripts that leave as many ties, in all or of one named one."""

import unittest

from tests.helpers import ANYTHING, Picker, every_company, pick_company, pick_script, refuse, slow_done, slow_know, wrong_nameds
from tests.helpers import wrong_scripts
from twobesides.errors import InvalidNamed, InvalidOne, InvalidScript
from twobesides.tiecounts import as_many_known, as_many_ties, known_parting, ties_parting

FLIP, HZ = ("pairs", 0, (1, 1, 1, 0, 0, 0)), ("pairs", 0, (0, 0, 1, 1, 1, 0))
TURN, KNOW = ("tie", 0, 1, "turn"), ("tie", 0, 1, "know")
SWAP = (("takes", 0, 1, (0, 1, 1, 0)), ("takes", 1, 0, (0, 1, 1, 0)), ("takes", 0, 1, (0, 1, 1, 0)))


def slow_known(company, one):
    return sum(slow_know(company, one, other) for other in range(company[0]) if other != one)


def slow_parting(named, script, other, count, besides):
    """The first company, by fewest people and then in Python's order, with at most so many besides, that is told apart."""
    for people in range(named, named + besides + 1):
        for company in every_company(people):
            if count(slow_done(company, script)) != count(slow_done(company, other)):
                return company
    return None


def pick_beside(picker, named, script):
    """A script beside another one: often one that leaves as many ties."""
    if named == 1:
        kinds = [script + (FLIP, FLIP), script + (HZ, HZ), (HZ, HZ) + script]
    else:
        kinds = [script + SWAP, SWAP + script, script + (TURN, TURN), script + SWAP + (TURN,), (TURN, TURN) + script]
    return picker.one_of(kinds + [script, pick_script(picker, named, 2, 1)])


def wrong_ones(named):
    """Values that are no named ones."""
    return ANYTHING + [named, named + 1, -1, "0", (0,), [0], ()]


class TiesParting(unittest.TestCase):
    def test_picked(self):
        picker = Picker(350)
        told = []
        for named, many in ((1, 80), (2, 60), (3, 4)):
            for _ in range(many):
                script = pick_script(picker, named, picker.below(3), 1)
                other = pick_beside(picker, named, script)
                parting = slow_parting(named, script, other, lambda company: len(company[1]), 2)
                self.assertEqual(ties_parting(named, script, other), parting)
                self.assertIs(as_many_ties(named, script, other), parting is None)
                told.append(None if parting is None else parting[0] - named)
        for besides in (None, 0, 1, 2):
            self.assertGreater(told.count(besides), 2, besides)

    def test_that_part_only_with_two_besides(self):
        self.assertEqual(ties_parting(1, (("pairs", 0, (0, 0, 0, 1, 1, 0)),), ()), (3, ((0, 1), (0, 2), (1, 2))))
        self.assertIs(as_many_ties(1, (("pairs", 0, (0, 0, 0, 1, 1, 0)),), ()), False)

    def test_fewest_people_and_then_the_order(self):
        # Not the one with fewest ties comes first, but the first one in Python's order.
        script = (("pairs", 0, (0, 0, 1, 1, 0, 1)),)
        company = ties_parting(1, script, ())
        self.assertEqual(company, (3, ((0, 1), (0, 2))))
        self.assertEqual(len(slow_done((3, ((0, 1), (1, 2))), script)[1]), 1)
        self.assertEqual(ties_parting(2, (TURN,), ()), (2, ()))
        self.assertEqual(ties_parting(2, (KNOW,), (TURN,)), (2, ((0, 1),)))
        self.assertEqual(ties_parting(2, (("takes", 0, 1, (0, 0, 1, 0)),), ()), (3, ((0, 1), (0, 2), (1, 2))))

    def test_as_many_in_companies_of_whatever_size(self):
        picker = Picker(351)
        for named, script in ((2, SWAP), (3, SWAP), (1, (HZ, HZ)), (2, (TURN, TURN))):
            self.assertIs(as_many_ties(named, script, ()), True)
            self.assertIsNone(ties_parting(named, script, ()))
            for _ in range(10):
                company = pick_company(picker, 12)
                self.assertEqual(len(slow_done(company, script)[1]), len(company[1]))

    def test_no_items_and_thirty(self):
        for named in (1, 2, 3):
            self.assertIs(as_many_ties(named, (), ()), True)
            self.assertIs(as_many_ties(named, (FLIP,) * 30, ()), True)
            self.assertIs(as_many_ties(named, (FLIP,) * 29, (FLIP,) * 30), False)

    def test_wrong_arguments(self):
        for named in (1, 2, 3):
            rows = [(named, InvalidNamed, wrong_nameds())] + [((), InvalidScript, wrong_scripts(named))] * 2
            refuse(self, as_many_ties, rows)
            refuse(self, ties_parting, rows)
            refuse(self, as_many_known, rows + [(0, InvalidOne, wrong_ones(named))])
            refuse(self, known_parting, rows + [(0, InvalidOne, wrong_ones(named))])


class KnownParting(unittest.TestCase):
    def test_picked(self):
        picker = Picker(352)
        told = []
        for named, many in ((1, 30), (2, 80), (3, 30)):
            for _ in range(many):
                script = pick_script(picker, named, picker.below(3), 1)
                other = pick_beside(picker, named, script)
                for one in range(named):
                    parting = slow_parting(named, script, other, lambda company: slow_known(company, one), 1)
                    self.assertEqual(known_parting(named, script, other, one), parting)
                    self.assertIs(as_many_known(named, script, other, one), parting is None)
                    told.append(None if parting is None else parting[0] - named)
        for besides in (None, 0, 1):
            self.assertGreater(told.count(besides), 5, besides)

    def test_two_besides_tell_no_more(self):
        picker = Picker(353)
        for _ in range(40):
            script, other = pick_script(picker, 2, 2, 1), pick_script(picker, 2, 2, 1)
            for one in (0, 1):
                parting = slow_parting(2, script, other, lambda company: slow_known(company, one), 2)
                self.assertEqual(known_parting(2, script, other, one), parting)

    def test_one_is_known_to_as_many_and_another_one_is_not(self):
        script = (("takes", 0, 1, (0, 1, 0, 1)),)
        self.assertEqual([as_many_known(2, script, (), one) for one in (0, 1)], [False, True])
        self.assertEqual([as_many_known(3, script, (), one) for one in (0, 1, 2)], [False, True, False])
        self.assertEqual(known_parting(2, script, (), 0), (3, ((0, 1), (0, 2))))
        self.assertEqual([as_many_known(3, (("tie", 0, 2, "turn"),), (), one) for one in (0, 1, 2)], [False, True, False])

    def test_as_many_in_all_but_not_for_each(self):
        self.assertIs(as_many_ties(2, SWAP, ()), True)
        self.assertEqual([as_many_known(2, SWAP, (), one) for one in (0, 1)], [False, False])
        self.assertIs(as_many_known(1, (FLIP,), (), 0), True)
        self.assertIs(as_many_ties(1, (FLIP,), ()), False)


if __name__ == "__main__":
    unittest.main()
