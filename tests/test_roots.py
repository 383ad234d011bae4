"""Points 20 and 60: how often a script is to be done, to do the same as another one."""

import unittest

from tests.helpers import Picker, every_deed, pick_script, pick_undone, refuse, slow_table, wrong_nameds, wrong_scripts
from tests.test_rounds import slow_power, slow_table_round, told_scripts
from twobesides.companytexts import read_script
from twobesides.errors import InvalidNamed, InvalidScript
from twobesides.roots import times_to

EM, ET = ("pairs", 0, (0, 0, 1, 1, 1, 1)), ("pairs", 0, (0, 0, 1, 1, 1, 0))


def slow_times_to(named, script, other_script):
    """The least number of times, by trying one behind the other until the table comes round."""
    table, goal = slow_table(named, script), slow_table(named, other_script)
    power = slow_power(table, 0)
    for times in range(sum(slow_table_round(table))):
        if power == goal:
            return times
        power = tuple(table[number] for number in power)
    return None


class TimesTo(unittest.TestCase):
    def test_rows_of_the_script_itself(self):
        for named, script, (beginning, whole) in told_scripts():
            for times in range(30 // max(1, len(script)) + 1):
                if len(script * times) <= 30 and "ask" not in [item[0] for item in script]:
                    told = times if times < beginning else beginning + (times - beginning) % whole
                    self.assertEqual(times_to(named, script, script * times), told)

    def test_picked(self):
        picker = Picker(115)
        told = []
        for named, many in ((1, 100), (2, 60), (3, 12)):
            for _ in range(many):
                script = pick_undone(picker, named, 1 + picker.below(3)) + pick_script(picker, named, picker.below(2), 1)
                other = picker.one_of([script * 2, script * 3, (), script + script[:1], script[1:], pick_script(picker, named, 2, 1)])
                told.append(slow_times_to(named, script, other))
                self.assertEqual(times_to(named, script, other), told[-1])
        self.assertGreater(told.count(None), 20)
        self.assertGreater(len(set(told)), 4)

    def test_pairs_of_deeds(self):
        for named, step in ((1, 3), (2, 23)):
            deeds = every_deed(named)[::step]
            for deed in deeds:
                for other in deeds:
                    self.assertEqual(times_to(named, (deed,), (other,)), slow_times_to(named, (deed,), (other,)))

    def backwards(self, script):
        """The script that undoes one whose deeds undo themselves."""
        return script[::-1]

    def test_times_beyond_each_cycle_of_the_table(self):
        for named, text, times in ((2, "u10p1011100p0111000u10g101001", 23), (3, "g101100p0110001g211001u21p2101010g210011", 1679)):
            script = read_script(named, text)
            self.assertEqual(times_to(named, script, self.backwards(script)), times)
            self.assertEqual(times_to(named, script, self.backwards(script * 2)), times - 1)
            self.assertEqual(times_to(named, script, ()), 0)
            self.assertIsNone(times_to(named, script, self.backwards(script)[:-1]))

    def test_no_common_number_of_times(self):
        # One part comes right after an even number of times, the other one after an odd one.
        turn, flip = ("tie", 0, 1, "turn"), ("pairs", 0, (1, 1, 1, 0, 0, 0))
        self.assertIsNone(times_to(2, (turn, flip), (flip,)))
        self.assertIsNone(times_to(2, (turn, flip), (turn,)))
        self.assertEqual(times_to(2, (turn, flip), (flip, turn)), 1)
        self.assertEqual(times_to(2, (turn, flip), ()), 0)

    def test_no_common_number_of_times_for_all_companies_at_once(self):
        # Two whom nobody knows need an odd number of times, two whom the doer knows an even one.
        both, one = ("pairs", 0, (1, 0, 1, 0, 1, 0)), ("pairs", 0, (1, 0, 0, 0, 1, 1))
        for named in (1, 2, 3):
            self.assertIsNone(times_to(named, (both,), (one,)))
            self.assertEqual(times_to(named, (both,), (both,) * 3), 1)
            self.assertEqual(times_to(named, (both,), (one, one)), 0)
        circle = (("takes", 0, 1, (0, 1, 1, 0)), ("takes", 1, 0, (0, 1, 1, 0)))
        self.assertIsNone(times_to(2, (("ask", 0, 1, (both,), circle),), (("ask", 0, 1, (one,), circle),)))
        self.assertIsNone(times_to(2, (("ask", 0, 1, circle, (both,)),), (("ask", 0, 1, circle, (one,)),)))
        # An odd number of times for one start, two of three for the other one.
        self.assertEqual(times_to(2, (("ask", 0, 1, (both,), circle),), (("ask", 0, 1, (both,), circle * 2),)), 5)
        self.assertEqual(times_to(2, (("ask", 0, 1, circle, (both,)),), (("ask", 0, 1, circle, ()),)), 4)

    def test_ahead_of_the_round(self):
        for named, script, (beginning, _) in told_scripts():
            if beginning > 0:
                self.assertEqual(times_to(named, script, script), 1)
                self.assertEqual(times_to(named, script, ()), 0)
                self.assertIsNone(times_to(named, script, (ET,)))
        self.assertEqual(times_to(1, (EM,), (EM, EM)), 1)
        self.assertIsNone(times_to(1, (EM,), (ET,)))
        self.assertIsNone(times_to(1, (EM,), (("pairs", 0, (0, 0, 0, 1, 1, 0)),)))

    def test_no_items(self):
        for named in (1, 2, 3):
            self.assertEqual(times_to(named, (), ()), 0)
            self.assertIsNone(times_to(named, (), (EM,)))
            self.assertEqual(times_to(named, (EM,), ()), 0)
            self.assertEqual(times_to(named, (ET,), (ET, ET, ET)), 1)

    def test_wrong_arguments(self):
        for named in (1, 2, 3):
            refuse(self, times_to, [(named, InvalidNamed, wrong_nameds())] + [((), InvalidScript, wrong_scripts(named))] * 2)


if __name__ == "__main__":
    unittest.main()
