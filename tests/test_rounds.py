"""Points 20 and 59: scripts done again and again, and when they come round."""

import unittest
from math import lcm

from tests.helpers import Picker, every_company, every_deed, pick_company, pick_script, pick_undone, refuse, slow_done, slow_round
from tests.helpers import slow_table, slow_times, wrong_companies, wrong_nameds, wrong_numbers, wrong_scripts
from twobesides.companytexts import read_script
from twobesides.errors import InvalidCompany, InvalidNamed, InvalidNumber, InvalidScript
from twobesides.rounds import coming_round, company_round, done_times, table_times

EM, ET = ("pairs", 0, (0, 0, 1, 1, 1, 1)), ("pairs", 0, (0, 0, 1, 1, 1, 0))
# Scripts with a long way ahead of their rounds, or with rounds beyond each cycle of their tables.
TOLD = [
    (1, "p0001110", (0, 2)), (1, "p0111111", (1, 1)), (2, "g100111u01?10[/p1011000p1101011]", (4, 4)),
    (2, "u10p0001110?01[p1110000/g010011]", (6, 2)), (2, "u10p1011100p0111000u10g101001", (0, 24)),
    (3, "g010100?01[s10/g121010]?10[/p0101011]", (8, 4)), (3, "p2111010?10[?01[/]/?10[u02/p1100001p2100000]k20]u02", (7, 12)),
    (3, "u20g021001p1001110g101001", (0, 168)), (3, "g101100p0110001g211001u21p2101010g210011", (0, 1680)),
]


def told_scripts():
    return [(named, read_script(named, text), both) for named, text, both in TOLD]


def picked_scripts(seed, many):
    picker = Picker(seed)
    for named in (1, 2, 3):
        for _ in range(many // named):
            yield named, pick_script(picker, named, picker.below(4), 1)
            yield named, pick_undone(picker, named, 1 + picker.below(3))


def slow_power(table, times):
    told = tuple(range(len(table)))
    for _ in range(times):
        told = tuple(table[number] for number in told)
    return told


def slow_table_round(table):
    """The beginning and the round of a table, from those of each of its numbers."""
    beginning, whole = 0, 1
    for number in range(len(table)):
        seen = {}
        while number not in seen:
            seen[number] = len(seen)
            number = table[number]
        beginning = max(beginning, seen[number])
        whole = lcm(whole, len(seen) - seen[number])
    return beginning, whole


class ComingRound(unittest.TestCase):
    def test_told_scripts(self):
        for named, script, both in told_scripts():
            self.assertEqual(coming_round(named, script), both)
            self.assertEqual(slow_table_round(slow_table(named, script)), both)

    def test_picked(self):
        for named, script in picked_scripts(100, 12):
            self.assertEqual(coming_round(named, script), slow_table_round(slow_table(named, script)))

    def test_by_doing_the_table_again_and_again(self):
        for named, script in picked_scripts(101, 20):
            if named < 3:
                table = slow_table(named, script)
                powers = [slow_power(table, 0)]
                while powers[-1] not in powers[:-1]:
                    powers.append(tuple(table[number] for number in powers[-1]))
                beginning = powers.index(powers[-1])
                self.assertEqual(coming_round(named, script), (beginning, len(powers) - 1 - beginning))

    def test_each_deed(self):
        for named in (1, 2):
            for deed in every_deed(named):
                self.assertEqual(coming_round(named, (deed,)), slow_table_round(slow_table(named, (deed,))))

    def test_no_items(self):
        for named in (1, 2, 3):
            self.assertEqual(coming_round(named, ()), (0, 1))
            self.assertEqual(company_round(named, (9, ((0, 8),)), ()), (0, 1))

    def test_wrong_arguments(self):
        for named in (1, 2, 3):
            refuse(self, coming_round, [(named, InvalidNamed, wrong_nameds()), ((), InvalidScript, wrong_scripts(named))])


class CompanyRound(unittest.TestCase):
    def test_picked(self):
        picker = Picker(102)
        told = set()
        for named, script in picked_scripts(103, 30):
            for people in (named, named + 1, named + 2, 4, 6):
                company = pick_company(picker, people)
                told.add(company_round(named, company, script))
                self.assertEqual(company_round(named, company, script), slow_round(company, script))
        self.assertGreater(len(told), 8)

    def test_told_scripts(self):
        picker = Picker(104)
        beyond = 0
        for named, script, (beginning, whole) in told_scripts():
            for people in (named, named + 1, named + 2, 6):
                company = pick_company(picker, people)
                both = company_round(named, company, script)
                self.assertEqual(both, slow_round(company, script))
                self.assertLessEqual(both[0], beginning)
                self.assertEqual(whole % both[1], 0)
                beyond += people < named + 2 and both[1] > 1
        self.assertGreater(beyond, 3)

    def test_few_besides_come_round_sooner(self):
        # With somebody besides it takes three times, with nobody besides it is done at once.
        script = (("takes", 0, 1, (0, 1, 1, 0)), ("takes", 1, 0, (0, 1, 1, 0)))
        self.assertEqual(company_round(2, (2, ()), script), (0, 1))
        self.assertEqual(company_round(2, (3, ()), script), (0, 1))
        self.assertEqual(company_round(2, (3, ((0, 2),)), script), (0, 3))
        self.assertEqual(company_round(1, (2, ((0, 1),)), (EM,)), (0, 1))
        self.assertEqual(company_round(1, (3, ((0, 1), (0, 2))), (EM,)), (1, 1))

    def test_nine_people(self):
        rounds = set()
        for named, script, _ in told_scripts():
            for seed in range(3):
                company = pick_company(Picker(seed), 9)
                rounds.add(company_round(named, company, script)[1])
                self.assertEqual(company_round(named, company, script), slow_round(company, script))
        self.assertGreater(max(rounds), 20)

    def test_wrong_arguments(self):
        for named in (1, 2, 3):
            refuse(self, company_round, [
                (named, InvalidNamed, wrong_nameds()), ((named, ()), InvalidCompany, wrong_companies(named)),
                ((), InvalidScript, wrong_scripts(named)),
            ])


class DoneTimes(unittest.TestCase):
    def test_few_times(self):
        picker = Picker(105)
        for named, script in picked_scripts(106, 10):
            company = pick_company(picker, named + picker.below(10 - named))
            for times in range(6):
                self.assertEqual(done_times(named, company, script, times), slow_times(company, script, times))

    def test_each_number_of_people(self):
        picker = Picker(107)
        for named, script, _ in told_scripts():
            for people in range(named, 10):
                company = pick_company(picker, people)
                self.assertEqual(done_times(named, company, script, 5), slow_times(company, script, 5))

    def test_ever_so_many_times(self):
        picker = Picker(108)
        for named, script, (beginning, whole) in told_scripts():
            company = pick_company(picker, named + picker.below(4))
            for times in (10 ** 30, 10 ** 30 - 1, 10 ** 29 + 7, 2 ** 99 - 1):
                fewer = beginning + (times - beginning) % whole
                self.assertEqual(done_times(named, company, script, times), slow_times(company, script, fewer))

    def test_no_times_and_once(self):
        picker = Picker(109)
        for named, script in picked_scripts(110, 8):
            company = pick_company(picker, 9)
            self.assertEqual(done_times(named, company, script, 0), company)
            self.assertEqual(done_times(named, company, script, 1), slow_done(company, script))
            self.assertEqual(table_times(named, script, 0), tuple(range(len(every_company(named + 2)))))
            self.assertEqual(table_times(named, script, 1), slow_table(named, script))

    def test_longer_than_scripts_are_let(self):
        script = (ET,) * 30
        self.assertEqual(done_times(1, (3, ((0, 1), (0, 2))), script + (), 2), (3, ((0, 1), (0, 2))))
        self.assertEqual(done_times(1, (3, ((0, 1), (0, 2))), script[:29], 3), (3, ((0, 1), (0, 2), (1, 2))))

    def test_wrong_arguments(self):
        for named in (1, 2, 3):
            refuse(self, done_times, [
                (named, InvalidNamed, wrong_nameds()), ((named, ()), InvalidCompany, wrong_companies(named)),
                ((), InvalidScript, wrong_scripts(named)), (0, InvalidNumber, wrong_numbers(10 ** 30)),
            ])
            refuse(self, table_times, [
                (named, InvalidNamed, wrong_nameds()), ((), InvalidScript, wrong_scripts(named)),
                (10 ** 30, InvalidNumber, wrong_numbers(10 ** 30)),
            ])


class TableTimes(unittest.TestCase):
    def test_few_times(self):
        for named, script in picked_scripts(111, 9):
            table = slow_table(named, script)
            for times in (2, 3, 4, 7, 12, 31):
                self.assertEqual(table_times(named, script, times), slow_power(table, times))

    def test_ever_so_many_times(self):
        for named, script, (beginning, whole) in told_scripts():
            table = slow_table(named, script)
            for times in (10 ** 30, 10 ** 30 - 1):
                self.assertEqual(table_times(named, script, times), slow_power(table, beginning + (times - beginning) % whole))


if __name__ == "__main__":
    unittest.main()
