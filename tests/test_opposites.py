"""Points 10 and 48: opposites, and other names of the named ones."""

import unittest
from itertools import combinations, permutations

from tests.helpers import ANYTHING, Picker, every_company, every_deed, pick_company, pick_script, refuse, slow_know
from tests.helpers import wrong_companies, wrong_nameds, wrong_scripts
from twobesides.errors import InvalidCompany, InvalidNamed, InvalidOrder, InvalidScript
from twobesides.opposites import opposite, opposite_script, renamed_company, renamed_script
from twobesides.scripts import is_script

WORDS = {"know": "part", "part": "know", "turn": "turn"}


def slow_opposite(script):
    told = []
    for item in script:
        if item[0] == "ask":
            told.append((item[0], item[1], item[2], slow_opposite(item[4]), slow_opposite(item[3])))
        elif item[0] == "tie":
            told.append((item[0], item[1], item[2], WORDS[item[3]]))
        else:
            answers = list(item[-1])
            answers.reverse()
            told.append(item[:-1] + (tuple({0: 1, 1: 0}[answer] for answer in answers),))
    return tuple(told)


def slow_renamed(script, order):
    told = []
    for item in script:
        people = 1 if item[0] == "pairs" else 2
        names = tuple(order[name] for name in item[1:1 + people])
        rest = item[1 + people:]
        if item[0] == "ask":
            rest = tuple(slow_renamed(branch, order) for branch in rest)
        told.append(item[:1] + names + rest)
    return tuple(told)


class Opposites(unittest.TestCase):
    def test_companies(self):
        picker = Picker(34)
        for named in (1, 2, 3):
            for people in range(named, 10):
                company = pick_company(picker, people)
                told = opposite(named, company)
                self.assertEqual(told[0], people)
                self.assertEqual(sorted(told[1] + company[1]), list(combinations(range(people), 2)))
                self.assertEqual(list(told[1]), sorted(told[1]))
                self.assertEqual(opposite(named, told), company)

    def test_no_ties_and_all_ties(self):
        self.assertEqual(opposite(1, (1, ())), (1, ()))
        self.assertEqual(opposite(2, (3, ())), (3, ((0, 1), (0, 2), (1, 2))))
        self.assertEqual(opposite(3, (3, ((0, 1), (0, 2), (1, 2)))), (3, ()))

    def test_deeds(self):
        for named in (1, 2, 3):
            for deed in every_deed(named):
                self.assertEqual(opposite_script(named, (deed,)), slow_opposite((deed,)))
        told = opposite_script(1, (("pairs", 0, (0, 0, 0, 1, 0, 1)),))
        self.assertEqual(told, (("pairs", 0, (0, 1, 0, 1, 1, 1)),))

    def test_scripts(self):
        picker = Picker(35)
        for named in (1, 2, 3):
            for _ in range(100):
                script = pick_script(picker, named, picker.below(6), 3)
                if is_script(named, script):
                    told = opposite_script(named, script)
                    self.assertEqual(told, slow_opposite(script))
                    self.assertEqual(opposite_script(named, told), script)
            self.assertEqual(opposite_script(named, ()), ())

    def test_wrong_arguments(self):
        for named in (1, 2, 3):
            first = (named, InvalidNamed, wrong_nameds())
            refuse(self, opposite, [first, ((named, ()), InvalidCompany, wrong_companies(named))])
            refuse(self, opposite_script, [first, ((), InvalidScript, wrong_scripts(named))])


class Renamed(unittest.TestCase):
    def test_companies_in_all_orders(self):
        picker = Picker(36)
        for named in (1, 2, 3):
            for order in permutations(range(named)):
                for people in range(named, 10):
                    company = pick_company(picker, people)
                    told = renamed_company(named, company, order)
                    self.assertEqual((told[0], list(told[1])), (people, sorted(told[1])))
                    names = order + tuple(range(named, people))
                    for one, other in combinations(range(people), 2):
                        self.assertEqual(slow_know(told, names[one], names[other]), slow_know(company, one, other))

    def test_scripts_in_all_orders(self):
        picker = Picker(37)
        for named in (1, 2, 3):
            for order in permutations(range(named)):
                for _ in range(30):
                    script = pick_script(picker, named, picker.below(6))
                    self.assertEqual(renamed_script(named, script, order), slow_renamed(script, order))
                for deed in every_deed(named)[::3]:
                    self.assertEqual(renamed_script(named, (deed,), order), slow_renamed((deed,), order))
                self.assertEqual(renamed_script(named, (), order), ())

    def test_each_one_is_replaced_with_the_one_at_its_index(self):
        order = (1, 2, 0)
        self.assertEqual(renamed_company(3, (4, ((0, 1), (0, 3))), order), (4, ((1, 2), (1, 3))))
        self.assertEqual(renamed_company(3, (4, ((1, 2), (2, 3))), order), (4, ((0, 2), (0, 3))))
        choice = ("ask", 0, 1, (("tie", 1, 2, "turn"),), (("pairs", 2, (0, 1, 0, 1, 0, 1)),))
        told = ("ask", 1, 2, (("tie", 2, 0, "turn"),), (("pairs", 0, (0, 1, 0, 1, 0, 1)),))
        self.assertEqual(renamed_script(3, (choice, ("takes", 0, 2, (0, 0, 1, 1))), order), (told, ("takes", 1, 0, (0, 0, 1, 1))))

    def test_the_order_that_changes_nothing(self):
        for named in (1, 2, 3):
            order = tuple(range(named))
            for company in every_company(named):
                self.assertEqual(renamed_company(named, company, order), company)
            for deed in every_deed(named):
                self.assertEqual(renamed_script(named, (deed,), order), (deed,))

    def test_wrong_arguments(self):
        for named in (1, 2, 3):
            order = tuple(range(named))
            wrong = ANYTHING + [
                (), list(order), order + (named,), order[1:], order + (0,), (0,) * (named + 1), (1,) * named,
                (named,) + order[1:], order[:-1] + (named,), (-1,) + order[1:], (True,) * named, (False,) + order[1:],
                ("0",) + order[1:], (None,) * named, ((0,),) * named, 0, "01",
            ]
            if named > 1:
                wrong += [(0,) * named, (0, True) + order[2:], (named - 1,) * named]
            first = (named, InvalidNamed, wrong_nameds())
            last = (order, InvalidOrder, wrong)
            refuse(self, renamed_company, [first, ((named, ()), InvalidCompany, wrong_companies(named)), last])
            refuse(self, renamed_script, [first, ((), InvalidScript, wrong_scripts(named)), last])


if __name__ == "__main__":
    unittest.main()
