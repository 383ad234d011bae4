"""Points 26 and 69: places of choices, arms that are met, idle choices."""

import unittest

from tests.helpers import Picker, deep_script, every_company, pick_deed, pick_script, refuse, slow_done, slow_know
from tests.helpers import slow_table, wrong_nameds, wrong_scripts
from twobesides.arms import arms_met, idle_choices
from twobesides.errors import InvalidNamed, InvalidScript
from twobesides.scripts import is_script

TURN, KNOW, PART = (("tie", 0, 1, word) for word in ("turn", "know", "part"))
FLIP = ("pairs", 0, (1, 1, 1, 0, 0, 0))


def slow_arms(company, items, place, arms):
    """What comes of a company by items; the arms to which it comes are put to a set."""
    for index, item in enumerate(items):
        if item[0] == "ask":
            arm = 3 if slow_know(company, item[1], item[2]) else 4
            arms.add(place + (index, arm))
            company = slow_arms(company, item[arm], place + (index, arm), arms)
        else:
            company = slow_done(company, (item,))
    return company


def slow_met(named, script):
    arms = set()
    for people in (named, named + 1):
        for company in every_company(people):
            slow_arms(company, script, (), arms)
    return tuple(sorted(arms))


def slow_places(items):
    """All pairs of the place of a choice in items, and what the items are with each of its scripts in its place."""
    for index, item in enumerate(items):
        if item[0] == "ask":
            yield (index,), tuple(items[:index] + item[arm] + items[index + 1:] for arm in (3, 4))
            for arm in (3, 4):
                for place, both in slow_places(item[arm]):
                    inner = tuple(item[:arm] + (one,) + item[arm + 1:] for one in both)
                    yield (index, arm) + place, tuple(items[:index] + (one,) + items[index + 1:] for one in inner)


def slow_idle(named, script):
    table = slow_table(named, script)
    return tuple(sorted(place for place, both in slow_places(script) if all(slow_table(named, one) == table for one in both)))


class Arms(unittest.TestCase):
    def test_picked(self):
        picker = Picker(240)
        unmet = 0
        for named in (1, 2, 3):
            for _ in range(100):
                script = pick_script(picker, named, 1 + picker.below(4), 4)
                if not is_script(named, script):
                    continue
                arms = arms_met(named, script)
                self.assertEqual(arms, slow_met(named, script))
                unmet += len(arms) < 2 * len(list(slow_places(script)))
        self.assertGreater(unmet, 40)

    def test_no_choices(self):
        for named in (1, 2, 3):
            for script in ((), (FLIP,) * 30):
                self.assertEqual(arms_met(named, script), ())
                self.assertEqual(idle_choices(named, script), ())

    def test_arms_without_items(self):
        script = (("ask", 0, 1, (), ()),)
        for named in (2, 3):
            self.assertEqual(arms_met(named, script), ((0, 3), (0, 4)))
            self.assertEqual(arms_met(named, (KNOW,) + script), ((1, 3),))
            self.assertEqual(arms_met(named, (PART,) + script), ((1, 4),))

    def test_choices_within_choices(self):
        inner = ("ask", 1, 0, (TURN,), (KNOW,))
        script = (("ask", 0, 1, (inner,), (TURN, inner)), inner)
        self.assertEqual(arms_met(2, script), ((0, 3), (0, 3, 0, 3), (0, 4), (0, 4, 1, 3), (1, 4)))
        self.assertEqual(arms_met(2, deep_script(4)), ((0, 3), (0, 4), (0, 4, 0, 4), (0, 4, 0, 4, 0, 4), (0, 4, 0, 4, 0, 4, 0, 4)))
        self.assertEqual(arms_met(2, deep_script(2, False)), ((0, 3), (0, 3, 0, 3), (0, 4)))

    def test_arms_in_what_is_never_met(self):
        script = (KNOW, ("ask", 0, 1, (), (("ask", 0, 1, (TURN,), (FLIP,)),)))
        self.assertEqual(arms_met(2, script), ((1, 3),))
        self.assertEqual(idle_choices(2, script), ((1, 4, 0),))

    def test_indices_beyond_nine(self):
        ask = ("ask", 0, 1, (), ())
        script = (FLIP,) * 2 + (ask,) + (FLIP,) * 8 + (ask,)
        self.assertEqual(arms_met(2, script), ((2, 3), (2, 4), (11, 3), (11, 4)))
        self.assertEqual(idle_choices(2, script), ((2,), (11,)))

    def test_three_named_ones(self):
        script = (("tie", 1, 2, "know"), ("ask", 1, 2, (("ask", 0, 2, (), ()),), (("ask", 0, 1, (), ()),)))
        self.assertEqual(arms_met(3, script), ((1, 3), (1, 3, 0, 3), (1, 3, 0, 4)))

    def test_wrong_arguments(self):
        for function in (arms_met, idle_choices):
            for named in (1, 2, 3):
                refuse(self, function, [(named, InvalidNamed, wrong_nameds()), ((), InvalidScript, wrong_scripts(named))])


class Idle(unittest.TestCase):
    def test_picked(self):
        picker = Picker(241)
        told = set()
        for named, many in ((2, 80), (3, 6)):
            for _ in range(many):
                script = pick_script(picker, named, 1 + picker.below(3), 2)
                if len(list(slow_places(script))) < 6:
                    told.add(idle_choices(named, script))
                    self.assertEqual(idle_choices(named, script), slow_idle(named, script))
        self.assertGreater(len(told), 4)

    def test_picked_with_like_arms(self):
        picker = Picker(242)
        found = 0
        for _ in range(60):
            deed = pick_deed(picker, 2)
            arms = [(deed, FLIP), (FLIP, deed), (deed, FLIP, TURN, TURN), (deed,)]
            inner = ("ask", 0, 1, picker.one_of(arms), picker.one_of(arms))
            script = (pick_deed(picker, 2), ("ask", 1, 0, picker.one_of(arms), (inner,) + picker.one_of(arms)))
            idle = slow_idle(2, script)
            self.assertEqual(idle_choices(2, script), idle)
            found += idle != () and len(idle) < 2
        self.assertGreater(found, 10)

    def test_one_arm_like_the_whole_is_not_enough(self):
        # The choice is never met with both not knowing one another; but that its second script may come is asked.
        script = (KNOW, ("ask", 0, 1, (FLIP,), (TURN,)))
        self.assertEqual(arms_met(2, script), ((1, 3),))
        self.assertEqual(idle_choices(2, script), ())
        self.assertEqual(idle_choices(2, (PART, ("ask", 0, 1, (FLIP,), (TURN,)))), ())
        self.assertEqual(idle_choices(2, (PART, ("ask", 0, 1, (TURN,), (TURN,)))), ((1,),))

    def test_met_but_idle(self):
        for named in (2, 3):
            self.assertEqual(idle_choices(named, (("ask", 0, 1, (), ()),)), ((0,),))
            self.assertEqual(idle_choices(named, (("ask", 0, 1, (TURN,), (KNOW,)),)), ())
            self.assertEqual(idle_choices(named, (("ask", 0, 1, (TURN,), (KNOW,)), PART)), ((0,),))
            self.assertEqual(idle_choices(named, (("ask", 0, 1, (PART,), (TURN, TURN)),)), ())
            self.assertEqual(idle_choices(named, (("ask", 0, 1, (TURN,), ()),)), ())

    def test_many_choices(self):
        script = (("ask", 0, 1, (("ask", 1, 2, (FLIP,), (FLIP,)),), (FLIP, ("ask", 0, 2, (), ()))),) * 5
        self.assertEqual(len(idle_choices(3, script)), 15)
        self.assertEqual(idle_choices(3, (("ask", 0, 1, (), ()),) * 30), tuple((index,) for index in range(30)))


if __name__ == "__main__":
    unittest.main()
