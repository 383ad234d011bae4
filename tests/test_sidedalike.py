"""Points 37 and 80: sided scripts that do the same, their rounds, and those that keep knowing mutual."""

import unittest

from tests.helpers import Picker, every_sided_company, pick_sided, pick_sided_deed, pick_sided_script, refuse, slow_sided
from tests.helpers import wrong_sided_scripts
from twobesides.errors import InvalidSidedScript
from twobesides.sidedalike import keeps_mutual, sided_alike, sided_parting, sided_round

TURN = ("pairs", (0, 0, 0, 0, 1, 1, 1, 1) * 2)
KEEP = ("pairs", (0,) * 8 + (1,) * 8)
MEET_AGAIN = ("meets", (0, 0, 0, 0, 1, 1, 1, 1))
SMALL = [sided for people in (1, 2, 3) for sided in every_sided_company(people)]


def slow_parting(deeds, others):
    """The first of all sided companies of at most three people, in the order of [37], that are told apart."""
    return next((sided for sided in SMALL if slow_sided(sided, deeds) != slow_sided(sided, others)), None)


def slow_round(deeds):
    """The beginning and the round, from all sided companies of three people at once."""
    companies = every_sided_company(3)
    numbers = {sided: number for number, sided in enumerate(companies)}
    table = [numbers[slow_sided(sided, deeds)] for sided in companies]
    told = list(range(len(companies)))
    seen = {}
    while tuple(told) not in seen:
        seen[tuple(told)] = len(seen)
        told = [table[number] for number in told]
    return seen[tuple(told)], len(seen) - seen[tuple(told)]


def is_mutual(sided):
    return all((other, one) in sided[1] for one, other in sided[1])


def pick_turned(picker):
    """A sided deed that can be undone: by what is asked beside, it is kept or turned."""
    word = picker.one_of(("pairs", "meets", "liked", "moods"))
    if word == "pairs":
        half = picker.answers(8)
        return word, half + tuple(1 - answer for answer in half)
    bit = {"meets": 4, "liked": 2, "moods": 1}[word]
    toss = picker.answers(8)
    return word, tuple(toss[at & ~bit] ^ (1 if at & bit else 0) for at in range(8))


class Alike(unittest.TestCase):
    def check(self, deeds, others):
        parting = slow_parting(deeds, others)
        self.assertEqual(sided_parting(deeds, others), parting)
        self.assertIs(sided_alike(deeds, others), parting is None)
        return parting

    def test_picked(self):
        picker = Picker(440)
        told = [self.check(pick_sided_script(picker, picker.below(3)), pick_sided_script(picker, picker.below(3))) for _ in range(60)]
        self.assertIn(2, [None if sided is None else sided[0] for sided in told])
        self.assertGreater(len(set(told)), 6)

    def test_picked_that_part_late(self):
        # Both scripts have all answers but one in common: few companies tell them apart.
        picker = Picker(441)
        told = set()
        for _ in range(60):
            ahead, (word, answers) = pick_sided_script(picker, picker.below(2)), pick_sided_deed(picker)
            at = picker.below(len(answers))
            other = (word, answers[:at] + (1 - answers[at],) + answers[at + 1:])
            told.add(self.check(ahead + ((word, answers),), ahead + (other,)))
        self.assertGreater(len(told), 15)
        self.assertEqual({sided[0] for sided in told if sided is not None}, {2, 3})

    def test_alike_though_unlike_told(self):
        picker = Picker(442)
        for _ in range(20):
            deeds, deed = pick_sided_script(picker, picker.below(3)), pick_turned(picker)
            self.check(deeds + (deed,), deeds)
        for deeds, others in (((TURN, TURN), ()), ((KEEP,), ()), ((MEET_AGAIN,), ()), ((("moods", (0,) * 8),) * 2, (("moods", (0,) * 8),))):
            self.assertIsNone(self.check(deeds, others))

    def test_fewer_who_know_come_first_and_then_the_order(self):
        self.assertEqual(self.check((TURN,), ()), (3, ((1, 2),), ()))
        # One who is glad must be there: that the named one is glad, too, comes ahead in Python's order.
        self.assertEqual(self.check((("moods", (0,) * 8),), ()), (2, (), (0, 1)))
        self.assertEqual(self.check((("meets", (0, 0, 0, 1, 1, 1, 1, 1)),), ()), (2, ((1, 0),), (0, 1)))
        self.assertEqual(self.check((("liked", (0, 0, 1, 1, 0, 0, 1, 0)),), ()), (2, ((0, 1), (1, 0)), (0, 1)))
        answers = tuple(1 if at == 15 else 0 for at in range(16))
        self.assertEqual(self.check((("pairs", answers),), (("pairs", (0,) * 16),)), (3, ((0, 1), (0, 2), (1, 2), (2, 1)), ()))

    def test_more_people_tell_no_more(self):
        picker = Picker(443)
        for _ in range(20):
            deeds = pick_sided_script(picker, picker.below(4))
            for sided in [pick_sided(picker, 6) for _ in range(5)]:
                self.assertEqual(slow_sided(sided, deeds + (TURN, TURN)), slow_sided(sided, (TURN, TURN) + deeds))
            self.assertIs(sided_alike(deeds + (TURN, TURN), deeds), True)

    def test_no_deeds_and_twenty(self):
        self.assertIs(sided_alike((), ()), True)
        self.assertIsNone(sided_parting((), ()))
        self.assertIs(sided_alike((TURN,) * 20, ()), True)
        self.assertIs(sided_alike((TURN,) * 19, (TURN,) * 20), False)
        picker = Picker(444)
        self.check(pick_sided_script(picker, 20), pick_sided_script(picker, 20))

    def test_wrong_arguments(self):
        rows = [((), InvalidSidedScript, wrong_sided_scripts())] * 2
        refuse(self, sided_alike, rows)
        refuse(self, sided_parting, rows)
        refuse(self, sided_round, rows[:1])
        refuse(self, keeps_mutual, rows[:1])


class Rounds(unittest.TestCase):
    def test_picked(self):
        picker = Picker(445)
        told = set()
        for _ in range(40):
            deeds = tuple(pick_turned(picker) if picker.below(3) else pick_sided_deed(picker) for _ in range(1 + picker.below(4)))
            told.add(sided_round(deeds))
            self.assertEqual(sided_round(deeds), slow_round(deeds))
        self.assertGreater(len(told), 8)
        self.assertTrue(any(beginning > 1 and whole > 1 for beginning, whole in told), told)

    def test_at_once(self):
        self.assertEqual(sided_round(()), (0, 1))
        self.assertEqual(sided_round((KEEP,)), (0, 1))
        self.assertEqual(sided_round((TURN,) * 19), (0, 2))
        self.assertEqual(sided_round((("moods", (0,) * 8),) * 20), (1, 1))
        self.assertEqual(sided_round((("moods", (1, 0) * 4),)), (0, 2))

    def test_beginnings(self):
        # Who is known is liked next time, and glad the time behind that.
        deeds = (("moods", (0, 0, 1, 1, 0, 0, 1, 1)), ("liked", (0, 0, 0, 0, 1, 1, 1, 1)), ("meets", (0,) * 8))
        self.assertEqual(sided_round(deeds), (3, 1))
        self.assertEqual(sided_round(deeds + (TURN,)), (3, 2))

    def test_greater_companies_come_round_with_it(self):
        picker = Picker(446)
        for _ in range(10):
            deeds = tuple(pick_turned(picker) for _ in range(2)) + pick_sided_script(picker, picker.below(2))
            beginning, whole = sided_round(deeds)
            sided = pick_sided(picker, 6)
            if beginning + whole < 60:
                once = slow_sided(sided, deeds * beginning)
                self.assertEqual(slow_sided(once, deeds * whole), once)


class Mutual(unittest.TestCase):
    def test_picked(self):
        picker = Picker(447)
        told = []
        mutual = [sided for sided in every_sided_company(3) if is_mutual(sided)]
        for _ in range(150):
            answers = picker.answers(16)
            if picker.below(4):
                # Two who know one another alike are told alike: both orders of one question have one answer.
                swap = {at: 8 * (at >> 2 & 1) + 4 * (at >> 3) + 2 * (at & 1) + (at >> 1 & 1) for at in range(16)}
                answers = tuple(answers[min(at, swap[at])] for at in range(16))
            both = picker.answers(8)
            deeds = picker.one_of([(("pairs", answers),), (("pairs", answers), pick_sided_deed(picker)), (pick_sided_deed(picker),),
                                   (("meets", both), ("liked", (0, 0, 0, 0, 1, 1, 1, 1)))])
            told.append(all(is_mutual(slow_sided(sided, deeds)) for sided in mutual))
            self.assertIs(keeps_mutual(deeds), told[-1])
        self.assertGreater(min(told.count(True), told.count(False)), 30)

    def test_what_is_lost_on_the_way_can_come_back(self):
        meets, liked = ("meets", (1,) * 8), ("liked", (1,) * 8)
        self.assertIs(keeps_mutual((meets,)), False)
        self.assertIs(keeps_mutual((liked,)), False)
        self.assertIs(keeps_mutual((meets, liked)), True)
        self.assertIs(keeps_mutual((meets, liked, ("pairs", (0,) * 12 + (1,) * 4))), True)

    def test_only_what_is_mutual_ahead_counts(self):
        # One who alone knows the other one would stay so; but ahead both know one another, or none does.
        self.assertIs(keeps_mutual((KEEP,)), True)
        self.assertIs(keeps_mutual((TURN,)), True)
        self.assertIs(keeps_mutual((("pairs", (0,) * 4 + (1, 0, 0, 1) + (0, 1, 1, 0) + (1,) * 4),)), True)
        self.assertIs(keeps_mutual((("pairs", (0, 1) + (0,) * 10 + (1,) * 4),)), False)
        self.assertIs(keeps_mutual((("liked", (0, 0, 1, 1, 0, 0, 1, 1)),)), True)
        self.assertIs(keeps_mutual((("liked", (0, 0, 0, 0, 1, 1, 1, 1)),)), True)
        self.assertIs(keeps_mutual((("liked", (1, 0, 0, 0, 1, 1, 1, 1)),)), False)

    def test_no_deeds(self):
        self.assertIs(keeps_mutual(()), True)
        self.assertIs(keeps_mutual((("moods", (0, 1) * 4),) * 20), True)

    def test_greater_companies(self):
        picker = Picker(448)
        for _ in range(30):
            both = picker.answers(8)
            deeds = (("moods", both), ("pairs", (0,) * 12 + (1,) * 4), ("meets", picker.answers(8)), ("liked", (0, 0, 0, 0, 1, 1, 1, 1)))
            if keeps_mutual(deeds):
                sided = pick_sided(picker, 6)
                mutual = (6, tuple(sorted(set(sided[1]) | {pair[::-1] for pair in sided[1]})), sided[2])
                self.assertTrue(is_mutual(slow_sided(mutual, deeds)))


if __name__ == "__main__":
    unittest.main()
