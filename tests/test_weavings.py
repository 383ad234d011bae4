"""Points 28 and 71: two scripts woven into one another, the ends of all weavings, and quarrels."""

import unittest
from itertools import product
from math import comb

from tests.helpers import ANYTHING, Picker, every_company, pick_company, pick_script, refuse, short_script, slow_count, slow_done
from tests.helpers import slow_weavings, wrong_companies, wrong_nameds, wrong_scripts
from twobesides.errors import InvalidCompany, InvalidNamed, InvalidScript, InvalidWeaving, TooMany
from twobesides.scripts import is_script
from twobesides.weavings import ends_of, is_weaving, never_quarrel, quarrel_of, woven

TURN, KNOW, PART = (("tie", 0, 1, word) for word in ("turn", "know", "part"))
FLIP, FORGET = ("pairs", 0, (1, 1, 1, 0, 0, 0)), ("pairs", 0, (0, 0, 0, 0, 0, 0))
P = (4, ((0, 2), (1, 3)))


def picked(seed, many, most=3):
    """Tuples of a number of named ones, a company, and two short scripts."""
    picker = Picker(seed)
    for named in (1, 2, 3):
        for _ in range(many):
            company = pick_company(picker, named + picker.below(4))
            yield named, company, short_script(picker, named, most), short_script(picker, named, most)


def wrong_weavings(good):
    """Values that are no weavings: other values, and what ends too early, goes on too long, or asks too much of one."""
    wrong = [good[:-1], good + (0,), good + (1,), good[1:], list(good), (2,) + good[1:], (-1,) + good[1:], (None,) + good[1:]]
    wrong += [tuple(bool(side) for side in good), good[:-1] + (bool(good[-1]),), tuple(str(side) for side in good), (good,)]
    wrong += [tuple(-side for side in good), tuple(side - 2 for side in good), tuple(side + 1 for side in good)]
    wrong += [tuple(1 - side for side in good), (0,) * len(good), (1,) * len(good), good * 2, good * 300, (), "01", 0, [0]]
    return ANYTHING + wrong


class Weavings(unittest.TestCase):
    def test_picked(self):
        lengths = set()
        for named, company, script, other in picked(310, 40):
            told = slow_weavings(company, script, other)
            for weaving, end in told.items():
                self.assertIs(is_weaving(named, company, script, other, weaving), True)
                self.assertEqual(woven(named, company, script, other, weaving), end)
            lengths.update(map(len, told))
            for many in range(6):
                for value in product((0, 1), repeat=many):
                    self.assertIs(is_weaving(named, company, script, other, value), value in told)
        self.assertGreater(len(lengths), 5)

    def test_steps_of_choices(self):
        # A choice is one step, and then come the items of the script that is done.
        script = (("ask", 0, 1, (TURN, FLIP), ()), TURN)
        self.assertIs(is_weaving(2, (2, ()), script, (), (0, 0)), True)
        self.assertIs(is_weaving(2, (2, ((0, 1),)), script, (), (0, 0)), False)
        self.assertIs(is_weaving(2, (2, ((0, 1),)), script, (), (0, 0, 0, 0)), True)
        self.assertIs(is_weaving(2, (2, ()), script, (KNOW,), (1, 0, 0, 0, 0)), True)
        self.assertIs(is_weaving(2, (2, ()), script, (KNOW,), (0, 1, 0)), True)
        self.assertIs(is_weaving(2, (2, ()), script, (KNOW,), (0, 1, 0, 0, 0)), False)

    def test_what_is_asked_stands_as_it_is_then(self):
        script = (("ask", 0, 1, (FLIP,), ()),)
        self.assertEqual(woven(2, P, script, (TURN,), (0, 1)), (4, ((0, 1), (0, 2), (1, 3))))
        self.assertEqual(woven(2, P, script, (TURN,), (1, 0, 0)), slow_done(P, (TURN, FLIP)))
        self.assertRaises(InvalidWeaving, woven, 2, P, script, (TURN,), (1, 0))
        # Between the choice and what it chose the other script does a step: the choice stays as it was made.
        self.assertEqual(woven(2, (2, ((0, 1),)), (("ask", 0, 1, (TURN,), ()),), (TURN,), (0, 1, 0)), (2, ((0, 1),)))

    def test_no_steps(self):
        for named in (1, 2, 3):
            company = (named + 2, ((0, named),))
            self.assertIs(is_weaving(named, company, (), (), ()), True)
            self.assertEqual(woven(named, company, (), (), ()), company)
            for value in ((0,), (1,), [], None):
                self.assertIs(is_weaving(named, company, (), (), value), False)
            self.assertIs(is_weaving(named, company, (FLIP,), (), (0,)), True)
            self.assertIs(is_weaving(named, company, (FLIP,), (), (1,)), False)
            self.assertIs(is_weaving(named, company, (), (FLIP,), (1,)), True)
            self.assertIs(is_weaving(named, company, (), (FLIP,), (0,)), False)

    def test_sixty_steps(self):
        picker = Picker(311)
        for named in (1, 2, 3):
            script, other = pick_script(picker, named, 30, 0), pick_script(picker, named, 30, 0)
            for weaving in ((0,) * 30 + (1,) * 30, (0, 1) * 30, picker.shuffled((0, 1) * 30)):
                items = [list(script), list(other)]
                told = slow_done((9, ((0, 8), (7, 8))), tuple(items[side].pop(0) for side in weaving))
                self.assertEqual(woven(named, (9, ((0, 8), (7, 8))), script, other, weaving), told)

    def test_deep_choices(self):
        script = (FLIP,)
        for _ in range(4):
            script = (("ask", 0, 1, (), script), FLIP)
        self.assertIs(is_script(2, script), True)
        for company in every_company(3):
            told = slow_weavings(company, script, (TURN, KNOW))
            for weaving, end in told.items():
                self.assertEqual(woven(2, company, script, (TURN, KNOW), weaving), end)
            self.assertEqual(len(set(map(len, told))) > 1, True)

    def test_other_values(self):
        for named in (1, 2, 3):
            company, script, other = (named + 1, ()), (FLIP, FLIP), (FLIP,)
            for weaving in ((0, 0, 1), (0, 1, 0), (1, 0, 0)):
                self.assertIs(is_weaving(named, company, script, other, weaving), True)
            for value in wrong_weavings((0, 1, 0)):
                self.assertIs(is_weaving(named, company, script, other, value), False, value)

    def test_wrong_arguments(self):
        for named in (1, 2, 3):
            rows = [
                (named, InvalidNamed, wrong_nameds()), ((named + 1, ()), InvalidCompany, wrong_companies(named)),
                ((FLIP, FLIP), InvalidScript, wrong_scripts(named)), ((FLIP,), InvalidScript, wrong_scripts(named)),
            ]
            refuse(self, woven, rows + [((0, 1, 0), InvalidWeaving, wrong_weavings((0, 1, 0)))])
            refuse(self, lambda *values: is_weaving(*values, None), rows)


def eight(named):
    """A script of eight deeds and choices."""
    return (FLIP,) * 8 if named == 1 else (("ask", 0, 1, (FLIP,) * 3, (("ask", 0, 1, (), ()),)), FLIP, FLIP, FLIP)


class Ends(unittest.TestCase):
    def test_picked(self):
        many = set()
        for named, company, script, other in picked(312, 60, 4):
            ends = sorted(set(slow_weavings(company, script, other).values()))
            self.assertEqual(ends_of(named, company, script, other), ends)
            many.add(len(ends))
        self.assertGreater(len(many), 4)

    def test_starts_that_part_on_the_way(self):
        picker = Picker(313)
        for _ in range(30):
            arms = [pick_script(picker, 2, 1, 0) for _ in range(2)]
            script, other = (("ask", 0, 1, arms[0], arms[1]), TURN), (TURN, ("ask", 1, 0, arms[1], ()))
            for company in [pick_company(picker, 5) for _ in range(3)]:
                self.assertEqual(ends_of(2, company, script, other), sorted(set(slow_weavings(company, script, other).values())))

    def test_no_items(self):
        for named in (1, 2, 3):
            for company in ((named, ()), (9, ((0, 8), (7, 8)))):
                self.assertEqual(ends_of(named, company, (), ()), [company])
                self.assertEqual(ends_of(named, company, (FLIP,), ()), [slow_done(company, (FLIP,))])
                self.assertEqual(ends_of(named, company, (), (FLIP, FORGET)), [slow_done(company, (FLIP, FORGET))])

    def test_two_scripts_of_eight(self):
        picker = Picker(314)
        for named in (1, 2, 3):
            company = pick_company(picker, 9)
            script, other = pick_script(picker, named, 8, 0), pick_script(picker, named, 8, 0)
            ends = ends_of(named, company, script, other)
            self.assertEqual(ends, sorted(set(ends)))
            # Among the ends are those of some weavings.
            for weaving in [(0,) * 8 + (1,) * 8, (1,) * 8 + (0,) * 8] + [picker.shuffled((0, 1) * 8) for _ in range(20)]:
                self.assertIn(woven(named, company, script, other, weaving), ends)
            self.assertLessEqual(len(ends), comb(16, 8))

    def test_eight_of_which_the_ends_are_worked_out_deed_by_deed(self):
        picker = Picker(315)
        for named in (1, 2):
            script, other = pick_script(picker, named, 8, 0), pick_script(picker, named, 3, 0)
            company = pick_company(picker, 5)
            self.assertEqual(ends_of(named, company, script, other), sorted(set(slow_weavings(company, script, other).values())))

    def test_eight_and_nine(self):
        for named in (1, 2, 3):
            company, script = (named, ()), eight(named)
            self.assertEqual(slow_count(script), 8)
            more = script + (FLIP,)
            for first, second in ((script, script), (script, ()), ((), script)):
                self.assertGreater(len(ends_of(named, company, first, second)), 0)
                self.assertIs(never_quarrel(named, first, second), quarrel_of(named, first, second) is None)
            for first, second in ((more, script), (script, more), (more, ()), ((), more), (more, more)):
                for function, values in ((ends_of, (named, company)), (never_quarrel, (named,)), (quarrel_of, (named,))):
                    with self.assertRaises(TooMany) as caught:
                        function(*values, first, second)
                    self.assertEqual(caught.exception.limit, 8)
                self.assertRaises(InvalidCompany, ends_of, named, (named - 1, ()), first, second)
        # Weavings of longer scripts are woven all the same.
        self.assertIs(is_weaving(2, P, (FLIP,) * 9, (), (0,) * 9), True)

    def test_too_many_is_told_behind_all_other_errors(self):
        for named in (1, 2, 3):
            more = (FLIP,) * 9
            for wrong in wrong_scripts(named)[::9]:
                self.assertRaises(InvalidScript, ends_of, named, (named, ()), more, wrong)
                self.assertRaises(InvalidScript, never_quarrel, named, more, wrong)
                self.assertRaises(InvalidScript, quarrel_of, named, more, wrong)

    def test_wrong_arguments(self):
        for named in (1, 2, 3):
            scripts = [((FLIP,), InvalidScript, wrong_scripts(named))] * 2
            ahead = [(named, InvalidNamed, wrong_nameds())]
            refuse(self, ends_of, ahead + [((named + 1, ()), InvalidCompany, wrong_companies(named))] + scripts)
            refuse(self, never_quarrel, ahead + scripts)
            refuse(self, quarrel_of, ahead + scripts)


class Quarrels(unittest.TestCase):
    def check(self, named, script, other):
        """Returns whether two scripts quarrel, asked of all views."""
        views = [view for view in every_company(named + 2) if len(set(slow_weavings(view, script, other).values())) > 1]
        self.assertIs(never_quarrel(named, script, other), views == [])
        told = quarrel_of(named, script, other)
        if views == []:
            self.assertIsNone(told)
            return False
        company, one, two = told
        self.assertIn(company, views)
        weavings = slow_weavings(company, script, other)
        self.assertNotEqual(weavings[one], weavings[two])
        return True

    def test_picked(self):
        picker = Picker(316)
        told = []
        for named, many in ((1, 80), (2, 50)):
            for _ in range(many):
                told.append(self.check(named, short_script(picker, named, 3), short_script(picker, named, 3)))
        self.assertGreater(min(told.count(True), told.count(False)), 20)

    def test_picked_with_few_kinds_of_deeds(self):
        picker = Picker(317)
        told = []
        deeds = (TURN, KNOW, ("takes", 0, 1, (0, 1, 0, 1)), ("takes", 1, 0, (0, 0, 1, 1)), FLIP)
        for _ in range(120):
            arms = [tuple(picker.one_of(deeds) for _ in range(picker.below(2))) for _ in range(4)]
            script = (("ask", 0, 1, arms[0], arms[1]),) + arms[2]
            told.append(self.check(2, script, arms[3] + arms[2]))
        self.assertGreater(min(told.count(True), told.count(False)), 20)

    def test_three_named_ones(self):
        scripts = [(("takes", 0, 1, (0, 1, 0, 1)),), (("takes", 2, 1, (0, 1, 0, 1)),), (("tie", 0, 2, "turn"),)]
        told = [self.check(3, one, other) for one in scripts for other in scripts]
        self.assertEqual(told, [False, True, True, True, False, True, True, True, False])

    def test_ways_that_part_and_come_together_again(self):
        # Turned ahead of being told anew or behind it: in the end the one script tells it anew.
        self.assertFalse(self.check(2, (TURN, KNOW, FORGET), ()))
        self.assertTrue(self.check(2, (TURN, KNOW), (TURN,)))
        self.assertFalse(self.check(2, (TURN, TURN), (TURN,)))
        self.assertFalse(self.check(1, (FORGET, FORGET), (FORGET,)))
        self.assertTrue(self.check(1, (FORGET,), (FLIP,)))
        self.assertFalse(self.check(1, (FLIP, FLIP), (FLIP, FLIP, FLIP)))
        # A diamond stays open at first and is closed at the end, whatever was done by then.
        self.assertFalse(self.check(2, (("ask", 0, 1, (TURN, PART), (PART,)),), (PART,)))
        self.assertTrue(self.check(2, (("ask", 0, 1, (TURN,), ()),), (TURN,)))

    def test_only_one_view_in_many_tells(self):
        for own in (0, 1):
            for many in range(3):
                answers = tuple(1 if index == 3 * own + many else 0 for index in range(6))
                self.check(1, (("pairs", 0, answers),), (("pairs", 0, (0, 0, 0, 1, 1, 0)),))

    def test_two_scripts_of_eight(self):
        picker = Picker(318)
        for named in (1, 2, 3):
            script, other = pick_script(picker, named, 8, 0), pick_script(picker, named, 8, 0)
            told = quarrel_of(named, script, other)
            self.assertIs(never_quarrel(named, script, other), told is None)
            if told is not None:
                company, one, two = told
                self.assertEqual(company[0], named + 2)
                self.assertNotEqual(woven(named, company, script, other, one), woven(named, company, script, other, two))
        self.assertIs(never_quarrel(3, (("tie", 0, 1, "turn"),) * 8, (("tie", 0, 2, "turn"),) * 8), True)
        self.assertIs(never_quarrel(3, eight(3), ()), True)


if __name__ == "__main__":
    unittest.main()
