"""Points 21 and 62: how many companies stay by scripts."""

import unittest

from tests.helpers import Picker, every_company, every_deed, pick_script, pick_undone, refuse, slow_done, slow_times
from tests.helpers import wrong_nameds, wrong_numbers, wrong_scripts
from tests.test_rounds import told_scripts
from twobesides.errors import InvalidNamed, InvalidNumber, InvalidScript
from twobesides.stayings import count_coming_back, count_staying

EM, ET = ("pairs", 0, (0, 0, 1, 1, 1, 1)), ("pairs", 0, (0, 0, 1, 1, 1, 0))
EX, EY = ("takes", 0, 1, (0, 1, 1, 0)), ("takes", 1, 0, (0, 1, 1, 0))


class Staying(unittest.TestCase):
    def test_all_companies_with_few_people(self):
        picker = Picker(130)
        told = set()
        for named, most in ((1, 5), (2, 4), (3, 4)):
            for people in range(named, most + 1):
                for _ in range(8):
                    script = pick_script(picker, named, picker.below(3), 1)
                    stay = [company for company in every_company(people) if slow_done(company, script) == company]
                    told.add(len(stay))
                    self.assertEqual(count_staying(named, script, people - named), len(stay))
        self.assertGreater(len(told), 12)

    def test_three_besides(self):
        picker = Picker(131)
        for named in (1, 2):
            for _ in range(5):
                script = picker.one_of([pick_script(picker, named, 2), pick_undone(picker, named, 2)])
                stay = [company for company in every_company(named + 3) if slow_done(company, script) == company]
                self.assertEqual(count_staying(named, script, 3), len(stay))

    def test_each_deed(self):
        for named, step in ((1, 1), (2, 5)):
            for deed in every_deed(named)[::step]:
                for besides in range(3):
                    stay = [company for company in every_company(named + besides) if slow_done(company, (deed,)) == company]
                    self.assertEqual(count_staying(named, (deed,), besides), len(stay))

    def test_by_numbers_of_those_who_know_the_doer(self):
        # Of two whom the doer knows it is turned whether they know one another: one at most may be there.
        for besides in range(9):
            told = 2 ** (besides * (besides - 1) // 2) * (1 + besides)
            self.assertEqual(count_staying(1, (ET,), besides), told)
            # Two whom the doer knows must know one another.
            some = sum(self.choose(besides, many) * 2 ** (besides * (besides - 1) // 2 - many * (many - 1) // 2)
                       for many in range(besides + 1))
            self.assertEqual(count_staying(1, (EM,), besides), some)

    def choose(self, whole, many):
        told = 1
        for index in range(many):
            told = told * (whole - index) // (index + 1)
        return told

    def test_none_and_all(self):
        for named in (1, 2, 3):
            for besides in (0, 1, 9 - named):
                people = named + besides
                self.assertEqual(count_staying(named, (), besides), 2 ** (people * (people - 1) // 2))
        for named in (2, 3):
            for besides in (0, 1, 2, 9 - named):
                self.assertEqual(count_staying(named, (("tie", 0, 1, "turn"),), besides), 0)

    def test_wrong_arguments(self):
        for named in (1, 2, 3):
            refuse(self, count_staying, [
                (named, InvalidNamed, wrong_nameds()), ((), InvalidScript, wrong_scripts(named)),
                (0, InvalidNumber, wrong_numbers(9 - named)),
            ])


class ComingBack(unittest.TestCase):
    def test_few_times(self):
        picker = Picker(132)
        for named, most in ((1, 4), (2, 4), (3, 4)):
            for people in range(named, most + 1):
                for times in (0, 1, 2, 3):
                    script = picker.one_of([pick_script(picker, named, 2, 1), pick_undone(picker, named, 3)])
                    back = [company for company in every_company(people) if slow_times(company, script, times) == company]
                    self.assertEqual(count_coming_back(named, script, times, people - named), len(back))

    def test_ever_so_many_times(self):
        for named, script, (beginning, whole) in told_scripts():
            for besides in range(4 - min(named, 2)):
                for times in (10 ** 30, 10 ** 30 - 1):
                    fewer = beginning + (times - beginning) % whole
                    told = count_coming_back(named, script, fewer, besides)
                    self.assertEqual(count_coming_back(named, script, times, besides), told)
                    if fewer < 30 and named < 3:
                        stay = [one for one in every_company(named + besides) if slow_times(one, script, fewer) == one]
                        self.assertEqual(told, len(stay))

    def test_the_round_lets_all_come_back_just_if_one_to_one(self):
        for named, script, (beginning, whole) in told_scripts():
            for besides in (2, 9 - named):
                people = named + besides
                everybody = 2 ** (people * (people - 1) // 2)
                self.assertEqual(count_coming_back(named, script, whole, besides) == everybody, beginning == 0)
                self.assertEqual(count_coming_back(named, script, 0, besides), everybody)

    def test_once(self):
        picker = Picker(133)
        for named in (1, 2, 3):
            for besides in range(10 - named):
                script = pick_undone(picker, named, 2)
                self.assertEqual(count_coming_back(named, script, 1, besides), count_staying(named, script, besides))

    def test_eight_besides(self):
        self.assertEqual(count_coming_back(1, (ET,), 2, 8), 2 ** 36)
        self.assertEqual(count_coming_back(2, (EX, EY), 3, 7), 2 ** 36)
        self.assertEqual(count_coming_back(2, (EX, EY), 10 ** 30, 7), count_staying(2, (EX, EY), 7))

    def test_wrong_arguments(self):
        for named in (1, 2, 3):
            refuse(self, count_coming_back, [
                (named, InvalidNamed, wrong_nameds()), ((), InvalidScript, wrong_scripts(named)),
                (0, InvalidNumber, wrong_numbers(10 ** 30)), (9 - named, InvalidNumber, wrong_numbers(9 - named)),
            ])


if __name__ == "__main__":
    unittest.main()
