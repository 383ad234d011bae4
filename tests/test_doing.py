"""Points 5, 6 and 44: what comes of companies by scripts."""

import unittest
from itertools import combinations, product

from tests.helpers import Picker, every_company, every_deed, pick_company, pick_deed, pick_script, refuse
from tests.helpers import slow_deed, slow_deeds, slow_done, wrong_companies, wrong_nameds, wrong_scripts
from twobesides.doing import done, done_on
from twobesides.errors import InvalidCompany, InvalidNamed, InvalidScript


def everybody(people):
    return people, tuple(combinations(range(people), 2))


class SingleDeeds(unittest.TestCase):
    def test_all_deeds_on_all_small_companies(self):
        for named, people in ((1, 1), (1, 2), (1, 3), (2, 2), (2, 3), (3, 3)):
            for deed in every_deed(named):
                for company in every_company(people):
                    self.assertEqual(done(named, company, (deed,)), slow_deed(company, deed))

    def test_picked_deeds_on_companies_of_all_sizes(self):
        picker = Picker(8)
        for named in (1, 2, 3):
            for people in range(named, 10):
                for _ in range(30):
                    company, deed = pick_company(picker, people), pick_deed(picker, named)
                    self.assertEqual(done(named, company, (deed,)), slow_deed(company, deed))

    def test_no_ties_and_all_ties(self):
        for named in (1, 2, 3):
            for people in range(named, 10):
                for deed in every_deed(named)[:: 5]:
                    for company in ((people, ()), everybody(people)):
                        self.assertEqual(done(named, company, (deed,)), slow_deed(company, deed))

    def test_each_answer_of_pairs_by_itself(self):
        for know, first, second in product((0, 1), repeat=3):
            ties = [(1, 2)] * know + [(0, 1)] * first + [(0, 2)] * second
            for at in range(6):
                answers = tuple(int(index == at) for index in range(6))
                after = done(1, (3, tuple(sorted(ties))), (("pairs", 0, answers),))
                self.assertEqual((1, 2) in after[1], at == 3 * know + first + second)

    def test_each_answer_of_takes_by_itself(self):
        for own, theirs, between in product((0, 1), repeat=3):
            ties = tuple(sorted([(0, 2)] * own + [(1, 2)] * theirs + [(0, 1)] * between))
            for at in range(4):
                answers = tuple(int(index == at) for index in range(4))
                after = done(2, (3, ties), (("takes", 0, 1, answers),))
                self.assertEqual((0, 2) in after[1], at == 2 * own + theirs)
                self.assertEqual([tie in after[1] for tie in ((0, 1), (1, 2))], [between == 1, theirs == 1])

    def test_named_ones_are_asked_and_told_of_by_pairs(self):
        answers = (0, 0, 1, 0, 0, 1)
        self.assertEqual(done(3, (3, ((0, 1), (0, 2))), (("pairs", 0, answers),)), everybody(3))
        self.assertEqual(done(2, (3, ((0, 1), (0, 2))), (("pairs", 0, answers),)), everybody(3))
        self.assertEqual(done(3, (3, ((0, 1), (1, 2))), (("pairs", 1, answers),)), everybody(3))
        self.assertEqual(done(3, everybody(3), (("pairs", 2, (0,) * 6),)), (3, ((0, 2), (1, 2))))

    def test_named_ones_are_asked_and_told_of_by_takes(self):
        answers = (0, 1, 0, 1)
        self.assertEqual(done(3, (3, ((0, 2),)), (("takes", 1, 0, answers),)), (3, ((0, 2), (1, 2))))
        self.assertEqual(done(3, (4, ((0, 1), (1, 3))), (("takes", 2, 1, answers),)), (4, ((0, 1), (0, 2), (1, 3), (2, 3))))
        self.assertEqual(done(3, (3, ((0, 1), (0, 2))), (("takes", 0, 2, (0,) * 4),)), (3, ((0, 2),)))

    def test_the_tie_of_both_stays_by_takes(self):
        for ties in ((), ((0, 1),)):
            for answers in product((0, 1), repeat=4):
                self.assertEqual(done(2, (2, ties), (("takes", 1, 0, answers),)), (2, ties))

    def test_ties_of_the_doer_stay_by_pairs(self):
        for named in (1, 2, 3):
            for doer in range(named):
                company = pick_company(Picker(9 + doer), 7)
                after = done(named, company, (("pairs", doer, (1, 0, 1, 0, 1, 0)),))
                self.assertEqual([tie for tie in after[1] if doer in tie], [tie for tie in company[1] if doer in tie])

    def test_words(self):
        for one, other in ((0, 1), (1, 0)):
            for know in (False, True):
                company = (3, ((0, 1), (0, 2))) if know else (3, ((0, 2),))
                for word, behind in (("know", True), ("part", False), ("turn", not know)):
                    after = done(2, company, (("tie", one, other, word),))
                    self.assertEqual(after, (3, ((0, 1), (0, 2)) if behind else ((0, 2),)))

    def test_asked_as_ahead_of_the_deed(self):
        # Told one tie behind the other, with what is told anew heard at once, these would differ.
        path = (5, ((0, 1), (1, 2), (2, 3), (3, 4)))
        self.assertEqual(done(1, path, (("pairs", 0, (0, 1, 0, 1, 0, 1)),)), (5, ((0, 1), (1, 3), (1, 4), (2, 3), (3, 4))))
        self.assertEqual(done(2, path, (("takes", 0, 1, (0, 1, 1, 0)),)), (5, ((0, 1), (0, 2), (1, 2), (2, 3), (3, 4))))
        self.assertEqual(done(3, (4, ((0, 3), (1, 2))), (("takes", 2, 0, (1, 1, 0, 1)),)), (4, ((0, 3), (2, 3))))


class Scripts(unittest.TestCase):
    def test_picked_scripts(self):
        picker = Picker(10)
        for named in (1, 2, 3):
            for _ in range(200):
                company = pick_company(picker, named + picker.below(10 - named))
                script = pick_script(picker, named, picker.below(5))
                self.assertEqual(done(named, company, script), slow_done(company, script))

    def test_the_empty_script(self):
        picker = Picker(11)
        for named in (1, 2, 3):
            for people in range(named, 10):
                company = pick_company(picker, people)
                self.assertEqual(done(named, company, ()), company)
                self.assertEqual(done_on(named, company, ()), [company])

    def test_choices(self):
        know, part, turn = (("tie", 0, 1, word) for word in ("know", "part", "turn"))
        pairs = ("pairs", 0, (1, 1, 1, 1, 1, 1))
        for one, other in ((0, 1), (1, 0)):
            asking = ("ask", one, other, (part,), (know, pairs))
            self.assertEqual(done(2, (3, ((0, 1),)), (asking,)), (3, ()))
            self.assertEqual(done(2, (3, ()), (asking,)), (3, ((0, 1), (1, 2))))
            self.assertEqual(done(2, (3, ()), (turn, asking)), (3, ()))
            self.assertEqual(done(2, (3, ()), (asking, asking)), (3, ((1, 2),)))
            self.assertEqual(done(2, (3, ()), (("ask", one, other, (), (asking,)), turn)), (3, ((1, 2),)))

    def test_choices_about_each_two_named_ones(self):
        for company in every_company(3):
            for one, other in ((0, 1), (0, 2), (1, 2), (2, 1), (2, 0), (1, 0)):
                script = (("ask", one, other, (("tie", 0, 2, "turn"),), (("tie", 1, 2, "turn"), ("tie", 0, 1, "turn"))),)
                self.assertEqual(done(3, company, script), slow_done(company, script))

    def test_done_on(self):
        picker = Picker(12)
        for named in (1, 2, 3):
            for _ in range(60):
                company = pick_company(picker, named + picker.below(5))
                script = pick_script(picker, named, picker.below(6))
                behind = [slow_done(company, script[:many]) for many in range(len(script) + 1)]
                self.assertEqual(done_on(named, company, script), behind)

    def test_done_on_tells_one_company_for_a_choice(self):
        script = (("ask", 0, 1, (), (("tie", 0, 1, "know"), ("tie", 0, 1, "part"))),)
        self.assertEqual(done_on(2, (2, ()), script), [(2, ()), (2, ())])
        self.assertEqual(len(slow_deeds((2, ()), script)[0]), 2)

    def test_the_longest_script(self):
        picker = Picker(13)
        for named in (1, 2, 3):
            script = tuple(pick_deed(picker, named) for _ in range(30))
            company = pick_company(picker, 9)
            self.assertEqual(done(named, company, script), slow_done(company, script))
            self.assertEqual(len(done_on(named, company, script)), 31)

    def test_the_list_is_new(self):
        told = done_on(1, (2, ()), ())
        told.clear()
        self.assertEqual(done_on(1, (2, ()), ()), [(2, ())])

    def test_wrong_arguments(self):
        for named in (1, 2, 3):
            rows = [
                (named, InvalidNamed, wrong_nameds()), ((named, ()), InvalidCompany, wrong_companies(named)),
                ((("pairs", 0, (0,) * 6),), InvalidScript, wrong_scripts(named)),
            ]
            refuse(self, done, rows)
            refuse(self, done_on, rows)


if __name__ == "__main__":
    unittest.main()
