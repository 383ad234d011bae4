"""Points 5, 6 and 43: deeds, choices and scripts."""

import unittest

from tests.helpers import Picker, deep_script, every_deed, pick_company, pick_script, refuse, slow_deeds
from tests.helpers import wrong_companies, wrong_deeds, wrong_nameds, wrong_scripts
from twobesides.errors import InvalidCompany, InvalidNamed, InvalidScript
from twobesides.scripts import count_deeds, deeds_done, depth_of, is_script

DEED = ("pairs", 0, (0, 0, 0, 1, 1, 1))
TURN = ("tie", 0, 1, "turn")


def slow_counts(script):
    """How many deeds and choices, and the depth, told by going through all of a script."""
    deeds, choices, depth = 0, 0, 0
    for item in script:
        if item[0] != "ask":
            deeds += 1
            continue
        choices += 1
        for branch in item[3:]:
            more = slow_counts(branch)
            deeds, choices, depth = deeds + more[0], choices + more[1], max(depth, 1 + more[2])
        depth = max(depth, 1)
    return deeds, choices, depth


class IsScript(unittest.TestCase):
    def test_each_deed_is_a_script_by_itself(self):
        for named in (1, 2, 3):
            for deed in every_deed(named):
                self.assertIs(is_script(named, (deed,)), True)
                self.assertIs(is_script(named, deed), False)

    def test_deeds_of_more_named_ones_are_none(self):
        for deed in every_deed(3):
            people = deed[1:2] if deed[0] == "pairs" else deed[1:3]
            for named in (1, 2, 3):
                self.assertIs(is_script(named, (deed,)), max(people) < named and len(people) <= named)

    def test_the_empty_script(self):
        for named in (1, 2, 3):
            self.assertIs(is_script(named, ()), True)

    def test_choices(self):
        for named in (2, 3):
            for one in range(-1, 4):
                for other in range(-1, 4):
                    good = one != other and min(one, other) >= 0 and max(one, other) < named
                    self.assertIs(is_script(named, (("ask", one, other, (), (TURN,)),)), good)
        self.assertIs(is_script(1, (("ask", 0, 0, (), ()),)), False)

    def test_picked_scripts(self):
        picker = Picker(5)
        for named in (1, 2, 3):
            for _ in range(100):
                self.assertIs(is_script(named, pick_script(picker, named, picker.below(5))), True)

    def test_thirty_deeds_and_choices_in_all(self):
        def asked(first, second):
            return ("ask", 0, 1, (DEED,) * first, (DEED,) * second)

        for named in (1, 2, 3):
            self.assertIs(is_script(named, (DEED,) * 30), True)
            self.assertIs(is_script(named, (DEED,) * 31), False)
        for named in (2, 3):
            for first in (0, 1, 14, 28, 29, 30):
                for second in (0, 1, 15, 29):
                    self.assertIs(is_script(named, (asked(first, second),)), first + second <= 29)
                    self.assertIs(is_script(named, (asked(first, second), DEED)), first + second <= 28)
                    self.assertIs(is_script(named, (DEED, asked(first, 0), asked(0, second))), first + second <= 27)
            self.assertIs(is_script(named, (("ask", 0, 1, (), ()),) * 30), True)
            self.assertIs(is_script(named, (("ask", 0, 1, (), ()),) * 31), False)
            inner = (asked(9, 9), asked(4, 3))
            self.assertIs(is_script(named, (("ask", 0, 1, inner, ()), DEED, DEED)), True)
            self.assertIs(is_script(named, (("ask", 0, 1, inner, ()), DEED, DEED, DEED)), False)
            self.assertIs(is_script(named, (("ask", 0, 1, (), inner), DEED, DEED, DEED)), False)

    def test_depth_of_four_at_most(self):
        for depth in range(8):
            for second in (True, False):
                self.assertIs(is_script(2, deep_script(depth, second)), depth <= 4)
                self.assertIs(is_script(3, (TURN,) + deep_script(depth, second) + (TURN,)), depth <= 4)

    def test_other_values_are_none(self):
        for named in (1, 2, 3):
            for value in wrong_scripts(named):
                self.assertIs(is_script(named, value), False)
            for deed in wrong_deeds(named):
                self.assertIs(is_script(named, (DEED, deed, DEED)), False)
                if named > 1:
                    self.assertIs(is_script(named, (("ask", 0, 1, (deed,), ()),)), False)
                    self.assertIs(is_script(named, (("ask", 0, 1, (), (deed,)),)), False)

    def test_wrong_number_of_named_ones(self):
        self.assertIs(is_script(2, ()), True)
        for value in wrong_nameds():
            with self.assertRaises(InvalidNamed):
                is_script(value, ())


class Counting(unittest.TestCase):
    def test_counts_and_depth(self):
        picker = Picker(6)
        for named in (1, 2, 3):
            for _ in range(200):
                script = pick_script(picker, named, picker.below(5), 3)
                if is_script(named, script):
                    deeds, choices, depth = slow_counts(script)
                    self.assertEqual(count_deeds(named, script), (deeds, choices))
                    self.assertEqual(depth_of(named, script), depth)

    def test_edges(self):
        self.assertEqual(count_deeds(1, ()), (0, 0))
        self.assertEqual(depth_of(1, ()), 0)
        self.assertEqual(count_deeds(1, (DEED,) * 30), (30, 0))
        self.assertEqual(depth_of(3, (DEED,) * 30), 0)
        for depth in range(5):
            for second in (True, False):
                self.assertEqual(depth_of(2, deep_script(depth, second)), depth)
                self.assertEqual(count_deeds(2, deep_script(depth, second)), (0, depth))
        self.assertEqual(depth_of(2, deep_script(1) + deep_script(3, False) + deep_script(2) + (TURN,)), 3)
        self.assertEqual(count_deeds(2, (("ask", 0, 1, (TURN,) * 3, (TURN,)), DEED)), (5, 1))

    def test_wrong_arguments(self):
        for named in (1, 2, 3):
            rows = [(named, InvalidNamed, wrong_nameds()), ((DEED,), InvalidScript, wrong_scripts(named))]
            refuse(self, count_deeds, rows)
            refuse(self, depth_of, rows)


class DeedsDone(unittest.TestCase):
    def test_deeds_in_turn(self):
        picker = Picker(7)
        for named in (1, 2, 3):
            for _ in range(150):
                company = pick_company(picker, named + picker.below(4))
                script = pick_script(picker, named, picker.below(5))
                self.assertEqual(deeds_done(named, company, script), slow_deeds(company, script)[0])

    def test_deeds_that_change_nothing_are_told(self):
        self.assertEqual(deeds_done(2, (2, ()), (("tie", 0, 1, "part"), DEED)), [("tie", 0, 1, "part"), DEED])
        self.assertEqual(deeds_done(2, (2, ()), ()), [])

    def test_choices_are_asked_when_they_come(self):
        asking = ("ask", 1, 0, (DEED,), (TURN, DEED))
        self.assertEqual(deeds_done(2, (2, ()), (asking, asking)), [TURN, DEED, DEED])
        self.assertEqual(deeds_done(2, (2, ((0, 1),)), (asking, asking)), [DEED, DEED])
        self.assertEqual(deeds_done(2, (2, ()), (TURN, asking)), [TURN, DEED])

    def test_the_list_is_new(self):
        told = deeds_done(2, (2, ()), (TURN, DEED))
        told.append(None)
        self.assertEqual(deeds_done(2, (2, ()), (TURN, DEED)), [TURN, DEED])

    def test_wrong_arguments(self):
        for named in (1, 2, 3):
            refuse(self, deeds_done, [
                (named, InvalidNamed, wrong_nameds()), ((named, ()), InvalidCompany, wrong_companies(named)),
                ((DEED,), InvalidScript, wrong_scripts(named)),
            ])


if __name__ == "__main__":
    unittest.main()
