"""Points 31, 32 and 74: what comes of summaries by scripts, and the forms of scripts."""

import unittest

from tests.helpers import ANYTHING, Picker, every_start, pick_company, pick_script, pick_summary, pick_undone, refuse, slow_done
from tests.helpers import slow_kind, slow_kind_pairs, slow_know, slow_pairs_of, slow_round, slow_summary, slow_times, wrong_nameds
from tests.helpers import wrong_owns, wrong_scripts, wrong_summaries
from twobesides.errors import InvalidNamed, InvalidOwn, InvalidScript, InvalidSummary, InvalidTimes
from twobesides.summariesled import summary_after, summary_behind, tie_form

FLIP, HZ = ("pairs", 0, (1, 1, 1, 0, 0, 0)), ("pairs", 0, (0, 0, 1, 1, 1, 0))
TURN, KNOW = ("tie", 0, 1, "turn"), ("tie", 0, 1, "know")


def company_of(named, own, kinds, known):
    """The company with these ties between named ones, these kinds, and these ties between the people besides."""
    ties = set(own) | {(one, named + at) for at, kind in enumerate(kinds) for one in range(named) if kind >> one & 1}
    return named + len(kinds), tuple(sorted(ties | {(named + one, named + other) for one, other in known}))


def slow_form(named, script, own):
    """The form of a script, by the words of [32], seen at companies with at most two besides."""
    behind = slow_done((named, own), script)
    ones = []
    for kind in range(2 ** named):
        ones.append(bin(slow_kind(named, slow_done(company_of(named, own, (kind,), ()), script), named)).count("1"))
    twos = []
    for pair in slow_kind_pairs(named):
        told = [slow_done(company_of(named, own, pair, known), script) for known in ((), ((0, 1),))]
        twos.append(tuple(int(slow_know(company, named, named + 1)) for company in told))
    return len(behind[1]), tuple(ones), tuple(twos)


def slow_led(named, summary, script):
    """What comes of a summary, worked out kind by kind and pair by pair, for numbers of any size."""
    own, numbers, tied = summary
    kinds = [slow_kind(named, slow_done(company_of(named, own, (kind,), ()), script), named) for kind in range(2 ** named)]
    told = tuple(sum(many for kind, many in enumerate(numbers) if kinds[kind] == goal) for goal in range(2 ** named))
    left = {pair: 0 for pair in slow_kind_pairs(named)}
    for pair, many in zip(slow_kind_pairs(named), tied):
        behind = tuple(sorted((kinds[pair[0]], kinds[pair[1]])))
        for known, count in (((), slow_pairs_of(numbers, pair) - many), (((0, 1),), many)):
            if slow_know(slow_done(company_of(named, own, pair, known), script), named, named + 1):
                left[behind] += count
    return slow_done((named, own), script)[1], told, tuple(left.values())


def wrong_times():
    return ANYTHING + [-1, 10 ** 30 + 1, 10 ** 31, "1", (1,), [0]]


class Behind(unittest.TestCase):
    def test_of_companies(self):
        picker = Picker(340)
        for named in (1, 2, 3):
            for _ in range(60):
                company = pick_company(picker, named + picker.below(10 - named))
                script = pick_script(picker, named, picker.below(5))
                summary = slow_summary(named, company)
                self.assertEqual(summary_behind(named, summary, script), slow_summary(named, slow_done(company, script)))

    def test_of_companies_of_more_people(self):
        picker = Picker(341)
        for named in (1, 2, 3):
            for _ in range(5):
                company = pick_company(picker, 12 + picker.below(5))
                script = pick_script(picker, named, 3)
                summary = slow_summary(named, company)
                self.assertEqual(summary_behind(named, summary, script), slow_summary(named, slow_done(company, script)))

    def test_great_numbers(self):
        picker = Picker(342)
        for named, many in ((1, 30), (2, 20), (3, 4)):
            for _ in range(many):
                summary = pick_summary(picker, named, 10 ** 30)
                script = pick_script(picker, named, 1 + picker.below(4))
                self.assertEqual(summary_behind(named, summary, script), slow_led(named, summary, script))

    def test_numbers_beyond_those_of_summaries(self):
        many = 10 ** 30
        forget = (("takes", 0, 1, (0, 0, 0, 0)),)
        summary = ((), (many,) * 4, (0,) * 10)
        self.assertEqual(summary_behind(2, summary, forget)[1], (2 * many, 0, 2 * many, 0))
        self.assertEqual(summary_behind(1, ((), (many, many), (0, 0, 0)), (FLIP,))[2][1], many * many)

    def test_nobody_besides(self):
        for named in (1, 2, 3):
            for start in every_start(named):
                none = ((0,) * 2 ** named, (0,) * len(slow_kind_pairs(named)))
                for script in ((), (FLIP,), (KNOW,) if named > 1 else (HZ,)):
                    self.assertEqual(summary_behind(named, (start[1],) + none, script), (slow_done(start, script)[1],) + none)

    def test_no_items_and_thirty(self):
        picker = Picker(343)
        for named in (1, 2, 3):
            summary = pick_summary(picker, named, 10 ** 30)
            self.assertEqual(summary_behind(named, summary, ()), summary)
            self.assertEqual(summary_behind(named, summary, (FLIP, FLIP) * 15), summary)
            script = pick_script(picker, named, 30, 0)
            self.assertEqual(summary_behind(named, summary, script), slow_led(named, summary, script))

    def test_wrong_arguments(self):
        for named in (1, 2, 3):
            good = ((), (0,) * 2 ** named, (0,) * len(slow_kind_pairs(named)))
            rows = [
                (named, InvalidNamed, wrong_nameds()), (good, InvalidSummary, wrong_summaries(named)),
                ((), InvalidScript, wrong_scripts(named)),
            ]
            refuse(self, summary_behind, rows)
            refuse(self, summary_after, rows + [(3, InvalidTimes, wrong_times())])


class After(unittest.TestCase):
    def test_done_again_and_again(self):
        picker = Picker(344)
        for named in (1, 2, 3):
            for _ in range(25):
                company = pick_company(picker, named + picker.below(8 - named))
                script = pick_script(picker, named, 1 + picker.below(3))
                for times in (0, 1, 2, 3, 7):
                    told = summary_after(named, slow_summary(named, company), script, times)
                    self.assertEqual(told, slow_summary(named, slow_times(company, script, times)))

    def test_no_times_and_one(self):
        picker = Picker(345)
        for named in (1, 2, 3):
            for _ in range(10):
                summary, script = pick_summary(picker, named, 10 ** 30), pick_script(picker, named, 3)
                self.assertEqual(summary_after(named, summary, script, 0), summary)
                self.assertEqual(summary_after(named, summary, script, 1), summary_behind(named, summary, script))

    def test_so_many_times(self):
        picker = Picker(346)
        for named in (1, 2, 3):
            for _ in range(12):
                company = pick_company(picker, named + 4)
                script = pick_undone(picker, named, 1 + picker.below(3)) + pick_script(picker, named, picker.below(2), 1)
                beginning, whole = slow_round(company, script)
                for times in (10 ** 30, 10 ** 30 - 1, 10 ** 29 + picker.below(1000)):
                    as_often = beginning + (times - beginning) % whole
                    told = summary_after(named, slow_summary(named, company), script, times)
                    self.assertEqual(told, slow_summary(named, slow_times(company, script, as_often)))

    def test_great_numbers_so_many_times(self):
        many = 10 ** 30
        summary = ((), (many, many), (many, 0, many * (many - 1) // 2 - 5))
        self.assertEqual(summary_after(1, summary, (HZ,), many), summary)
        self.assertEqual(summary_after(1, summary, (HZ,), many - 1), ((), (many, many), (many, 0, 5)))
        swap = (("takes", 0, 1, (0, 1, 1, 0)), ("takes", 1, 0, (0, 1, 1, 0)))
        summary = (((0, 1),), (1, 2, 3, many), (0, 1, 2, 3, 1, 4, 5, 3, 6, 7))
        told = summary
        for times in range(4):
            self.assertEqual(summary_after(2, summary, swap, times), told)
            told = slow_led(2, told, swap)
        self.assertEqual(summary_after(2, summary, swap, 3), summary)
        self.assertEqual(summary_after(2, summary, swap, many), summary_behind(2, summary, swap))

    def test_times_at_the_limits(self):
        summary = ((), (2, 3), (1, 6, 0))
        for times in (0, 1, 10 ** 30):
            summary_after(1, summary, (HZ,), times)
        for times in (-1, 10 ** 30 + 1, True, False, None):
            self.assertRaises(InvalidTimes, summary_after, 1, summary, (HZ,), times)


class Forms(unittest.TestCase):
    def test_picked(self):
        picker = Picker(347)
        forms = set()
        for named, many in ((1, 30), (2, 30), (3, 6)):
            for _ in range(many):
                script = pick_script(picker, named, picker.below(5))
                for _, own in every_start(named):
                    forms.add(tie_form(named, script, own))
                    self.assertEqual(tie_form(named, script, own), slow_form(named, script, own))
        self.assertGreater(len(forms), 60)

    def test_ties_of_what_comes(self):
        picker = Picker(348)
        for named in (1, 2, 3):
            for _ in range(20):
                company, script = pick_company(picker, 9), pick_script(picker, named, 3)
                own, numbers, tied = slow_summary(named, company)
                first, ones, twos = tie_form(named, script, own)
                ties = first + sum(many * each for many, each in zip(numbers, ones))
                for pair, many, (apart, known) in zip(slow_kind_pairs(named), tied, twos):
                    ties += known * many + apart * (slow_pairs_of(numbers, pair) - many)
                self.assertEqual(ties, len(slow_done(company, script)[1]))

    def test_no_items(self):
        self.assertEqual(tie_form(1, (), ()), (0, (0, 1), ((0, 1), (0, 1), (0, 1))))
        self.assertEqual(tie_form(2, (), ((0, 1),)), (1, (0, 1, 1, 2), ((0, 1),) * 10))
        self.assertEqual(tie_form(3, (), ((0, 1), (1, 2)))[:2], (2, (0, 1, 1, 2, 1, 2, 2, 3)))

    def test_choices_go_by_the_ties_between_named_ones(self):
        script = (("ask", 0, 1, (FLIP,), (KNOW,)),)
        self.assertEqual(tie_form(2, script, ()), (1, (0, 1, 1, 2), ((0, 1),) * 10))
        self.assertEqual(tie_form(2, script, ((0, 1),)), slow_form(2, script, ((0, 1),)))
        self.assertEqual(tie_form(2, script, ((0, 1),))[2], ((1, 0),) * 10)

    def test_wrong_arguments(self):
        for named in (1, 2, 3):
            refuse(self, tie_form, [
                (named, InvalidNamed, wrong_nameds()), ((), InvalidScript, wrong_scripts(named)), ((), InvalidOwn, wrong_owns(named)),
            ])


if __name__ == "__main__":
    unittest.main()
