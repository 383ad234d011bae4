"""Points 36 and 79: sided companies, sided scripts, and what comes of the ones by the others."""

import unittest
from itertools import product

from tests.helpers import Picker, every_sided_company, pick_sided, pick_sided_deed, pick_sided_script, refuse, slow_sided
from tests.helpers import slow_sided_deed, wrong_sided_deeds, wrong_sided_scripts, wrong_sideds
from twobesides.errors import InvalidSided, InvalidSidedScript
from twobesides.sided import are_sided_deeds, is_sided, sided_done


class Forms(unittest.TestCase):
    def test_sided_companies(self):
        picker = Picker(430)
        for people in range(1, 7):
            for _ in range(30):
                self.assertIs(is_sided(pick_sided(picker, people)), True)
            self.assertIs(is_sided((people, (), ())), True)
            everyone = tuple((one, other) for one in range(people) for other in range(people) if one != other)
            self.assertIs(is_sided((people, everyone, tuple(range(people)))), True)
        self.assertIs(is_sided((0, (), ())), False)
        self.assertIs(is_sided((7, (), ())), False)
        self.assertIs(is_sided((1, (), (0,))), True)
        self.assertIs(is_sided((3, ((0, 1), (1, 0), (2, 1)), (0, 2))), True)
        for value in wrong_sideds():
            self.assertIs(is_sided(value), False, value)

    def test_sided_scripts(self):
        picker = Picker(431)
        for many in range(21):
            self.assertIs(are_sided_deeds(pick_sided_script(picker, many)), True)
        self.assertIs(are_sided_deeds(()), True)
        self.assertIs(are_sided_deeds(pick_sided_script(picker, 21)), False)
        for word, many in (("pairs", 16), ("meets", 8), ("liked", 8), ("moods", 8)):
            for length in range(18):
                self.assertIs(are_sided_deeds(((word, (1,) * length),)), length == many)
        for value in wrong_sided_scripts():
            self.assertIs(are_sided_deeds(value), False, value)
        for deed in wrong_sided_deeds():
            self.assertIs(are_sided_deeds((deed,)), False, deed)


class Done(unittest.TestCase):
    def test_each_answer_alone(self):
        for word, many in (("pairs", 16), ("meets", 8), ("liked", 8), ("moods", 8)):
            for at in range(many):
                deed = (word, (0,) * at + (1,) + (0,) * (many - at - 1))
                for sided in every_sided_company(3)[::5]:
                    self.assertEqual(sided_done(sided, (deed,)), slow_sided_deed(sided, deed))

    def test_picked(self):
        picker = Picker(432)
        for people in range(1, 7):
            for _ in range(40):
                sided, deeds = pick_sided(picker, people), pick_sided_script(picker, picker.below(6))
                self.assertEqual(sided_done(sided, deeds), slow_sided(sided, deeds))

    def test_what_is_asked_stands_as_it_was(self):
        # Each of both is told anew by what both were to one another ahead.
        turned = ("pairs", tuple(b for a, b, _, _ in product((0, 1), repeat=4)))
        self.assertEqual(sided_done((3, ((1, 2),), ()), (turned,)), (3, ((2, 1),), ()))
        self.assertEqual(sided_done((3, ((1, 2), (2, 1)), ()), (turned,)), (3, ((1, 2), (2, 1)), ()))
        asked = ("pairs", tuple(c for _, _, c, _ in product((0, 1), repeat=4)))
        self.assertEqual(sided_done((3, ((0, 1), (2, 1)), ()), (asked,)), (3, ((0, 1), (1, 2)), ()))
        asked = ("pairs", tuple(d for _, _, _, d in product((0, 1), repeat=4)))
        self.assertEqual(sided_done((3, ((0, 1), (2, 0)), ()), (asked,)), (3, ((0, 1), (2, 0), (2, 1)), ()))

    def test_one_side_of_the_named_one(self):
        for at, (a, b, c) in enumerate(product((0, 1), repeat=3)):
            sided = (2, ((0, 1),) * a + ((1, 0),) * b, (1,) * c)
            answers = (0,) * at + (1,) + (0,) * (7 - at)
            self.assertEqual(sided_done(sided, (("meets", answers),)), (2, ((0, 1),) + ((1, 0),) * b, (1,) * c))
            self.assertEqual(sided_done(sided, (("liked", answers),)), (2, ((0, 1),) * a + ((1, 0),), (1,) * c))
            self.assertEqual(sided_done(sided, (("moods", answers),)), (2, ((0, 1),) * a + ((1, 0),) * b, (1,)))
            others = tuple(1 - answer for answer in answers)
            self.assertEqual(sided_done(sided, (("meets", others),)), (2, ((1, 0),) * b, (1,) * c))
            self.assertEqual(sided_done(sided, (("liked", others),)), (2, ((0, 1),) * a, (1,) * c))
            self.assertEqual(sided_done(sided, (("moods", others),)), (2, ((0, 1),) * a + ((1, 0),) * b, ()))

    def test_the_named_one_keeps_the_mood(self):
        for moods in ((), (0,)):
            for answers in ((0,) * 8, (1,) * 8):
                self.assertEqual(sided_done((1, (), moods), (("moods", answers),)), (1, (), moods))
                self.assertEqual(sided_done((2, (), moods), (("moods", answers),))[2], moods + (1,) * answers[0])
            self.assertEqual(sided_done((2, (), moods), (("pairs", (1,) * 16),)), (2, (), moods))

    def test_no_deeds_and_twenty(self):
        picker = Picker(433)
        for people in (1, 6):
            sided, deeds = pick_sided(picker, people), pick_sided_script(picker, 20)
            self.assertEqual(sided_done(sided, ()), sided)
            self.assertEqual(sided_done(sided, deeds), slow_sided(sided, deeds))

    def test_wrong_arguments(self):
        refuse(self, sided_done, [((3, (), ()), InvalidSided, wrong_sideds()), ((), InvalidSidedScript, wrong_sided_scripts())])
        for _ in range(3):
            self.assertEqual(sided_done((3, (), ()), (pick_sided_deed(Picker(1)),))[0], 3)


if __name__ == "__main__":
    unittest.main()
