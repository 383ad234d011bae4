"""Point 84: the error classes."""

import unittest

from twobesides import errors

NAMES = """InvalidNamed InvalidCompany InvalidScript InvalidPerson InvalidBesides NotTwo TooMany InvalidNumber InvalidOrder
    InvalidText InvalidScripts InvalidLot InvalidStock InvalidGoal InvalidPairs InvalidWish InvalidWeaving InvalidSummary
    InvalidOwn InvalidOne InvalidTimes InvalidSupply InvalidFacts InvalidSided InvalidSidedScript InvalidBook InvalidGuest
    InvalidDeed InvalidFriends NothingToUndo NothingToRedo""".split()


class Errors(unittest.TestCase):
    def test_base_class(self):
        self.assertEqual(errors.BesidesError.__bases__, (ValueError,))

    def test_all_others_derive_from_the_base_class_straight(self):
        for name in NAMES:
            self.assertEqual(getattr(errors, name).__bases__, (errors.BesidesError,), name)

    def test_there_are_no_other_classes(self):
        told = [name for name, value in vars(errors).items() if isinstance(value, type)]
        self.assertEqual(sorted(told), sorted(NAMES + ["BesidesError"]))

    def test_attributes(self):
        for value in (0, 5, 9, 1000):
            self.assertEqual(errors.TooMany(value).limit, value)
            self.assertEqual(errors.InvalidText(value).at, value)

    def test_others_take_a_message_or_nothing(self):
        for name in NAMES:
            if name not in ("TooMany", "InvalidText"):
                self.assertEqual(str(getattr(errors, name)("why")), "why")
                self.assertIsInstance(getattr(errors, name)(), ValueError)


if __name__ == "__main__":
    unittest.main()
