"""Points 35 and 78: companies and starts that tell scripts apart."""

import unittest
from itertools import combinations

from tests.helpers import Picker, every_company, every_start, pick_company, pick_script, refuse, slow_companies_with_two_besides
from tests.helpers import slow_done, slow_part, wrong_companies, wrong_lots, wrong_nameds
from twobesides.errors import InvalidCompany, InvalidNamed, InvalidScripts
from twobesides.tellings import parted_at, parted_by, telling_company, telling_starts

TURN, KNOW, PART = ((("tie", 0, 1, word),) for word in ("turn", "know", "part"))
FLIP, FORGET = (("pairs", 0, (1, 1, 1, 0, 0, 0)),), (("pairs", 0, (0, 0, 0, 0, 0, 0)),)


def slow_parted(companies, scripts):
    """The pairs of indices of the scripts that one of the companies parts."""
    pairs = combinations(range(len(scripts)), 2)
    return [(one, other) for one, other in pairs
            if any(slow_done(company, scripts[one]) != slow_done(company, scripts[other]) for company in companies)]


def companies_with(named, start):
    return [company for company in slow_companies_with_two_besides(named) if slow_part(named, company, ()) == start]


def slow_starts(named, scripts):
    starts = {start: slow_parted(companies_with(named, start), scripts) for start in every_start(named)}
    wanted = {pair for pairs in starts.values() for pair in pairs}
    for many in range(4):
        for some in combinations(every_start(named), many):
            if wanted <= {pair for start in some for pair in starts[start]}:
                return some
    return None


def pick_scripts(picker, named):
    """Two or three scripts, often such as part only with some starts."""
    scripts = []
    for _ in range(2 + picker.below(2)):
        kind = picker.below(4)
        if kind == 0 and scripts != []:
            scripts.append(picker.one_of(scripts))
        elif kind == 1 and named > 1:
            one, other = picker.shuffled(range(named))[:2]
            arms = [pick_script(picker, named, picker.below(2), 0) for _ in range(2)]
            scripts.append((("ask", one, other, arms[0], arms[1]),))
        else:
            scripts.append(pick_script(picker, named, picker.below(3), 1))
    return tuple(scripts)


def at_starts(told, left=((0, 1), (0, 2), (1, 2)), known=()):
    """A script of three named ones that does the told script at each start of a dict, and nothing at others."""
    if left == ():
        return told.get(known, ())
    one, other = left[0]
    know, part = (at_starts(told, left[1:], some) for some in (known + left[:1], known))
    return () if know == part == () else (("ask", one, other, know, part),)


def wrong_told(named):
    """Values that are no two or three scripts."""
    return wrong_lots(named, 3) + [(FLIP,), ((),), (FLIP,) * 4, (FLIP, FLIP, FLIP, FORGET)]


class PartedBy(unittest.TestCase):
    def test_picked(self):
        picker = Picker(420)
        told = set()
        for named in (1, 2, 3):
            for _ in range(80):
                scripts = pick_scripts(picker, named)
                company = pick_company(picker, named + picker.below(5))
                told.add(tuple(parted_by(named, company, scripts)))
                self.assertEqual(parted_by(named, company, scripts), slow_parted([company], scripts))
        self.assertIn((), told)
        self.assertIn(((0, 1), (0, 2), (1, 2)), told)
        self.assertIn(((0, 1), (0, 2)), told)
        self.assertIn(((0, 2), (1, 2)), told)

    def test_two_scripts_and_three(self):
        company = (3, ((0, 1),))
        self.assertEqual(parted_by(1, company, ((), FLIP)), [(0, 1)])
        self.assertEqual(parted_by(1, company, (FLIP, FLIP)), [])
        self.assertEqual(parted_by(1, company, ((), FLIP, FORGET)), [(0, 1), (1, 2)])
        self.assertEqual(parted_by(1, (9, ()), (FLIP * 30, (), FLIP * 29)), [(0, 2), (1, 2)])

    def test_wrong_arguments(self):
        for named in (1, 2, 3):
            refuse(self, parted_by, [
                (named, InvalidNamed, wrong_nameds()), ((named, ()), InvalidCompany, wrong_companies(named)),
                (((), ()), InvalidScripts, wrong_told(named)),
            ])


class PartedAt(unittest.TestCase):
    def test_picked(self):
        picker = Picker(421)
        told = set()
        for named, many in ((1, 40), (2, 40), (3, 4)):
            for _ in range(many):
                scripts = pick_scripts(picker, named)
                for start in every_start(named):
                    parted = parted_at(named, start, scripts)
                    self.assertEqual(parted, slow_parted(companies_with(named, start), scripts))
                    told.add(tuple(parted))
        self.assertGreater(len(told), 4)

    def test_what_only_other_starts_part(self):
        self.assertEqual(parted_at(2, (2, ()), ((), PART)), [])
        self.assertEqual(parted_at(2, (2, ((0, 1),)), ((), PART)), [(0, 1)])
        script = (("ask", 0, 1, FLIP, ()),)
        self.assertEqual(parted_at(2, (2, ()), ((), script)), [])
        self.assertEqual(parted_at(2, (2, ((0, 1),)), ((), script)), [(0, 1)])

    def test_parted_by_companies_with_two_besides_alone(self):
        script = (("pairs", 0, (0, 0, 0, 1, 1, 0)),)
        self.assertEqual(parted_at(1, (1, ()), (script, ())), [(0, 1)])
        self.assertEqual(parted_by(1, (2, ((0, 1),)), (script, ())), [])
        for named in (1, 2, 3):
            for at in range(6):
                script = (("pairs", 0, tuple(int(at == index) ^ int(index > 2) for index in range(6))),)
                for start in every_start(named):
                    self.assertEqual(parted_at(named, start, (script, ())), [(0, 1)])
                    self.assertEqual(telling_starts(named, (script, ())), (every_start(named)[0],))

    def test_wrong_arguments(self):
        for named in (1, 2, 3):
            somebody = [(people, ()) for people in range(named + 1, 10)] + [(named + 1, ((0, named),))]
            for function in (parted_at, telling_company):
                refuse(self, function, [
                    (named, InvalidNamed, wrong_nameds()), ((named, ()), InvalidCompany, wrong_companies(named) + somebody),
                    (((), ()), InvalidScripts, wrong_told(named)),
                ])


class TellingStarts(unittest.TestCase):
    def test_picked(self):
        picker = Picker(422)
        told = []
        for named, many in ((1, 30), (2, 80), (3, 6)):
            for _ in range(many):
                scripts = pick_scripts(picker, named)
                told.append(telling_starts(named, scripts))
                self.assertEqual(told[-1], slow_starts(named, scripts))
        self.assertEqual({len(starts) for starts in told}, {0, 1, 2})

    def test_scripts_that_no_company_parts(self):
        for named in (1, 2, 3):
            self.assertEqual(telling_starts(named, ((), ())), ())
            self.assertEqual(telling_starts(named, (FLIP, FLIP * 3, FLIP * 29)), ())

    def test_one_start_is_enough(self):
        for named in (1, 2, 3):
            self.assertEqual(telling_starts(named, ((), FLIP)), (every_start(named)[0],))
            self.assertEqual(telling_starts(named, ((), FLIP, FORGET)), (every_start(named)[0],))
        self.assertEqual(telling_starts(2, ((), PART)), ((2, ((0, 1),)),))

    def test_two_starts(self):
        starts = every_start(3)
        for one, other in ((0, 7), (2, 5), (6, 3)):
            one, other = starts[one], starts[other]
            scripts = ((), at_starts({one[1]: FLIP}), at_starts({one[1]: FLIP, other[1]: FORGET}))
            self.assertEqual(telling_starts(3, scripts), tuple(sorted((one, other))))
        # At each start that parts two of three scripts, the third one is parted from one of both.
        scripts = tuple(at_starts({starts[index][1]: FLIP}) for index in (4, 1, 6))
        self.assertEqual(telling_starts(3, scripts), slow_starts(3, scripts))
        self.assertEqual(telling_starts(3, scripts), (starts[1], starts[4]))

    def test_the_first_of_as_many(self):
        starts = every_start(3)
        scripts = ((), at_starts({starts[index][1]: FLIP for index in (6, 3, 5)}))
        self.assertEqual(telling_starts(3, scripts), (starts[3],))

    def test_wrong_arguments(self):
        for named in (1, 2, 3):
            refuse(self, telling_starts, [(named, InvalidNamed, wrong_nameds()), (((), ()), InvalidScripts, wrong_told(named))])


class TellingCompany(unittest.TestCase):
    def check(self, named, start, scripts):
        company = telling_company(named, start, scripts)
        people, ties = company
        self.assertTrue(named <= people <= 9)
        self.assertEqual(ties, tuple(sorted(set(ties))))
        self.assertTrue(all(0 <= one < other < people for one, other in ties))
        self.assertEqual(slow_part(named, company, ()), start)
        self.assertEqual(slow_parted([company], scripts), parted_at(named, start, scripts))

    def test_picked(self):
        picker = Picker(423)
        for named, many in ((1, 60), (2, 60), (3, 30)):
            for _ in range(many):
                scripts = pick_scripts(picker, named)
                for start in every_start(named):
                    self.check(named, start, scripts)

    def test_scripts_that_no_one_company_with_two_besides_parts(self):
        # Each of three scripts tells anew what two besides are to one another, if one sort of them is met.
        for named in (1, 2, 3):
            scripts = tuple((("pairs", 0, answers),) for answers in ((1, 0, 0, 1, 1, 1), (0, 0, 0, 1, 0, 1), (0, 0, 1, 1, 1, 1)))
            for start in every_start(named):
                self.assertEqual(parted_at(named, start, scripts), [(0, 1), (0, 2), (1, 2)])
                self.check(named, start, scripts)
        for view in every_company(3):
            self.assertLess(len(parted_by(1, view, scripts)), 3)

    def test_nothing_is_parted(self):
        for named in (1, 2, 3):
            for start in every_start(named):
                self.check(named, start, ((), ()))
                self.check(named, start, (FLIP, FLIP * 3, FORGET))

    def test_thirty_deeds(self):
        picker = Picker(424)
        for named in (1, 2, 3):
            for start in every_start(named):
                self.check(named, start, tuple(pick_script(picker, named, 30, 0) for _ in range(3)))


if __name__ == "__main__":
    unittest.main()
