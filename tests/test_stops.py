"""Point 72: scripts that exchange, and stops in a script at which another one can be done with the same end."""

import unittest

from tests.helpers import Picker, every_company, pick_company, pick_script, refuse, slow_done, slow_table, wrong_nameds, wrong_scripts
from twobesides.errors import InvalidNamed, InvalidScript
from twobesides.stops import do_exchange, stops_alike

TURN, KNOW, PART = (("tie", 0, 1, word) for word in ("turn", "know", "part"))
FLIP, FORGET = ("pairs", 0, (1, 1, 1, 0, 0, 0)), ("pairs", 0, (0, 0, 0, 0, 0, 0))


def slow_stops(named, script, other):
    classes = {}
    for index in range(len(script) + 1):
        classes.setdefault(slow_table(named, script[:index] + other + script[index:]), []).append(index)
    return sorted(map(tuple, classes.values()))


class Exchange(unittest.TestCase):
    def test_picked(self):
        picker = Picker(320)
        told = []
        for named, many in ((1, 60), (2, 50), (3, 3)):
            for _ in range(many):
                script, other = pick_script(picker, named, picker.below(3)), pick_script(picker, named, picker.below(3))
                told.append(do_exchange(named, script, other))
                self.assertIs(told[-1], slow_table(named, script + other) == slow_table(named, other + script))
        self.assertGreater(min(told.count(True), told.count(False)), 20)

    def test_only_two_besides_tell(self):
        # Among the named ones, and with one person besides, both orders do the same.
        for named in (1, 2):
            for people in (named, named + 1):
                for company in every_company(people):
                    if named == 1:
                        self.assertEqual(slow_done(company, (FLIP, FORGET)), slow_done(company, (FORGET, FLIP)))
            self.assertIs(do_exchange(named, (FLIP,), (FORGET,)), False)
            self.assertIs(do_exchange(named, (FLIP,), (FLIP, FLIP)), True)

    def test_no_items_and_thirty(self):
        for named in (1, 2, 3):
            self.assertIs(do_exchange(named, (), ()), True)
            self.assertIs(do_exchange(named, (), (FLIP,) * 30), True)
            self.assertIs(do_exchange(named, (FLIP,) * 30, (FLIP,) * 30), True)
            self.assertIs(do_exchange(named, (FLIP,) * 29, (FORGET,) * 30), False)

    def test_wrong_arguments(self):
        for named in (1, 2, 3):
            rows = [(named, InvalidNamed, wrong_nameds())] + [((), InvalidScript, wrong_scripts(named))] * 2
            refuse(self, do_exchange, rows)
            refuse(self, stops_alike, rows)


class Stops(unittest.TestCase):
    def test_picked(self):
        picker = Picker(321)
        kinds = set()
        for named, many in ((1, 60), (2, 40), (3, 2)):
            for _ in range(many):
                script, other = pick_script(picker, named, picker.below(5)), pick_script(picker, named, picker.below(3))
                told = stops_alike(named, script, other)
                self.assertEqual(told, slow_stops(named, script, other))
                kinds.add(tuple(told))
        self.assertGreater(len(kinds), 8)

    def test_no_items(self):
        for named in (1, 2, 3):
            self.assertEqual(stops_alike(named, (), ()), [(0,)])
            self.assertEqual(stops_alike(named, (), (FLIP,)), [(0,)])
            self.assertEqual(stops_alike(named, (FLIP, FORGET), ()), [(0, 1, 2)])

    def test_classes_that_do_not_stand_side_by_side(self):
        self.assertEqual(stops_alike(2, (TURN, KNOW, TURN), (TURN,)), [(0, 1), (2, 3)])
        self.assertEqual(stops_alike(2, (TURN, FLIP, PART), (TURN,)), [(0, 1, 2), (3,)])
        script = (KNOW, TURN, TURN, ("takes", 0, 1, (0, 1, 0, 1)))
        other = (("ask", 0, 1, (), (FLIP,)),)
        told = stops_alike(2, script, other)
        self.assertEqual(told, slow_stops(2, script, other))
        self.assertEqual(told, [(0,), (1, 3, 4), (2,)])

    def test_choices_are_one_item(self):
        script = (("ask", 0, 1, (TURN, FLIP), (TURN,)), TURN)
        self.assertEqual(stops_alike(2, script, (KNOW,)), slow_stops(2, script, (KNOW,)))
        self.assertEqual(sum(map(len, stops_alike(2, script, (KNOW,)))), 3)

    def test_thirty_deeds(self):
        picker = Picker(322)
        for named in (1, 2, 3):
            script, other = pick_script(picker, named, 30, 0), pick_script(picker, named, 30, 0)
            told = stops_alike(named, script, other)
            self.assertEqual(sorted(index for some in told for index in some), list(range(31)))
            self.assertEqual(told, sorted(told))
            for _ in range(3):
                company = pick_company(picker, named + 3)
                for some in told:
                    behind = {slow_done(company, script[:index] + other + script[index:]) for index in some[:3]}
                    self.assertEqual(len(behind), 1)
        self.assertEqual(stops_alike(3, (FLIP,) * 30, (FLIP,)), [tuple(range(31))])


if __name__ == "__main__":
    unittest.main()
