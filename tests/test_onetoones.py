"""Points 19 and 58: scripts that are one to one, twins of scripts, undoing."""

import unittest
from itertools import combinations

from tests.helpers import Picker, deep_script, every_company, every_deed, pick_company, pick_script, pick_undone, refuse
from tests.helpers import slow_done, slow_table, slow_times, wrong_nameds, wrong_scripts
from twobesides.companytexts import read_script
from twobesides.errors import InvalidNamed, InvalidScript
from twobesides.onetoones import is_one_to_one, least_twins, undoing_table, undoing_times

EM, ET = ("pairs", 0, (0, 0, 1, 1, 1, 1)), ("pairs", 0, (0, 0, 1, 1, 1, 0))
KNOW, TURN = ("tie", 0, 1, "know"), ("tie", 0, 1, "turn")


def slow_twins(named, script, most=2):
    """The first pair of companies with at most so many besides that come to one."""
    for people in range(named, named + most + 1):
        behind = [(company, slow_done(company, script)) for company in every_company(people)]
        for (one, first), (other, second) in combinations(behind, 2):
            if first == second:
                return one, other
    return None


def picked_scripts(seed, many):
    """Scripts that can be undone, scripts that can not, and scripts with one item that can not."""
    picker = Picker(seed)
    for named in (1, 2, 3):
        for _ in range(many // named):
            yield named, pick_undone(picker, named, picker.below(4))
            yield named, pick_script(picker, named, picker.below(3))
            yield named, pick_undone(picker, named, 2) + pick_script(picker, named, 1) + pick_undone(picker, named, 1)


class OneToOne(unittest.TestCase):
    def test_picked(self):
        told = []
        for named, script in picked_scripts(90, 12):
            table = slow_table(named, script)
            told.append(is_one_to_one(named, script))
            self.assertIs(told[-1], sorted(table) == list(range(len(table))))
        self.assertGreater(min(told.count(True), told.count(False)), 10)

    def test_each_deed(self):
        for named in (1, 2):
            for deed in every_deed(named):
                companies = {slow_done(company, (deed,)) for company in every_company(named + 2)}
                self.assertIs(is_one_to_one(named, (deed,)), len(companies) == len(every_company(named + 2)))

    def test_three_besides(self):
        picker = Picker(91)
        for named, script in [(1, (ET,)), (1, (EM,)), (2, pick_undone(picker, 2, 4)), (2, (TURN, KNOW))]:
            companies = every_company(named + 3)
            behind = {slow_done(company, script) for company in companies}
            self.assertIs(is_one_to_one(named, script), len(behind) == len(companies))

    def test_no_items_and_choices(self):
        for named in (1, 2, 3):
            self.assertIs(is_one_to_one(named, ()), True)
            self.assertIsNone(least_twins(named, ()))
        for named in (2, 3):
            self.assertIs(is_one_to_one(named, deep_script(4)), True)
            self.assertIs(is_one_to_one(named, (("ask", 0, 1, (ET,), (ET, ET)),)), True)
            self.assertIs(is_one_to_one(named, (("ask", 0, 1, (TURN,), ()),)), False)
            self.assertIs(is_one_to_one(named, (("ask", 0, 1, (ET,), (EM,)),)), False)

    def test_wrong_arguments(self):
        for function in (is_one_to_one, least_twins, undoing_table, undoing_times):
            for named in (1, 2, 3):
                refuse(self, function, [(named, InvalidNamed, wrong_nameds()), ((), InvalidScript, wrong_scripts(named))])


class Twins(unittest.TestCase):
    def test_picked(self):
        for named, script in picked_scripts(92, 8):
            self.assertEqual(least_twins(named, script), slow_twins(named, script))

    def test_each_deed(self):
        for named, step in ((1, 1), (2, 7)):
            for deed in every_deed(named)[::step]:
                self.assertEqual(least_twins(named, (deed,)), slow_twins(named, (deed,)))

    def test_nobody_one_or_two_besides(self):
        self.assertEqual(least_twins(2, (KNOW,)), ((2, ()), (2, ((0, 1),))))
        self.assertEqual(least_twins(3, (KNOW,)), ((3, ()), (3, ((0, 1),))))
        self.assertEqual(least_twins(2, (("takes", 0, 1, (0, 0, 0, 0)),)), ((3, ()), (3, ((0, 2),))))
        self.assertEqual(least_twins(2, (("takes", 0, 1, (0, 0, 0, 1)),)), ((3, ()), (3, ((0, 2),))))
        self.assertEqual(least_twins(2, (("takes", 1, 0, (0, 1, 1, 1)),)), ((3, ((0, 1), (0, 2))), (3, ((0, 1), (0, 2), (1, 2)))))
        self.assertEqual(least_twins(1, (("pairs", 0, (0, 1, 0, 1, 1, 1)),)), ((3, ((0, 1),)), (3, ((0, 1), (1, 2)))))


class Undoing(unittest.TestCase):
    def test_tables(self):
        undone = 0
        for named, script in picked_scripts(93, 10):
            table, back = slow_table(named, script), undoing_table(named, script)
            self.assertEqual(back is None, len(set(table)) < len(table))
            if back is not None:
                undone += 1
                self.assertIsInstance(back, tuple)
                self.assertEqual([back[number] for number in table], list(range(len(table))))
        self.assertGreater(undone, 10)

    def slow_times(self, named, script):
        table = slow_table(named, script)
        behind, times = table, 0
        while list(behind) != list(range(len(table))):
            if times > 3000:
                return None
            behind, times = [table[number] for number in behind], times + 1
        return times

    def test_times(self):
        told = set()
        for named, script in picked_scripts(94, 24):
            if len(set(slow_table(named, script))) < len(slow_table(named, script)):
                self.assertIsNone(undoing_times(named, script))
            else:
                told.add(undoing_times(named, script))
                self.assertEqual(undoing_times(named, script), self.slow_times(named, script))
        self.assertGreater(len(told), 4)

    def test_times_beyond_each_cycle_of_the_table(self):
        for named, text, times in ((2, "u10p1011100p0111000u10g101001", 23), (3, "g101100p0110001g211001u21p2101010g210011", 1679)):
            script = read_script(named, text)
            self.assertEqual(undoing_times(named, script), times)
            self.assertEqual(self.slow_times(named, script), times)

    def test_none_at_once(self):
        for named in (1, 2, 3):
            self.assertEqual(undoing_times(named, ()), 0)
            self.assertEqual(undoing_times(named, (ET, ET)), 0)
            self.assertEqual(undoing_times(named, (ET,)), 1)
            self.assertIsNone(undoing_times(named, (EM,)))
            self.assertEqual(undoing_table(named, ()), tuple(range(len(every_company(named + 2)))))

    def test_undone_in_greater_companies(self):
        picker = Picker(95)
        for named in (1, 2, 3):
            for _ in range(4):
                script = pick_undone(picker, named, 2)
                company = pick_company(picker, 9 - picker.below(3))
                times = undoing_times(named, script)
                self.assertEqual(slow_times(slow_done(company, script), script, times), company)


if __name__ == "__main__":
    unittest.main()
