"""The errors of the package."""


class BesidesError(ValueError):
    """The base class of all errors of this package."""


class InvalidNamed(BesidesError):
    """No number of named ones."""


class InvalidCompany(BesidesError):
    """No company for the number of named ones."""


class InvalidScript(BesidesError):
    """No script for the number of named ones."""


class InvalidPerson(BesidesError):
    """Nobody of the company, or the same person twice."""


class InvalidBesides(BesidesError):
    """No such people of the company."""


class NotTwo(BesidesError):
    """A company without exactly two people besides."""


class TooMany(BesidesError):
    """More of something than the limit."""

    def __init__(self, limit):
        self.limit = limit


class InvalidNumber(BesidesError):
    """No integer, or none that is let."""


class InvalidOrder(BesidesError):
    """No order of the named ones."""


class InvalidText(BesidesError):
    """No text begins with the signs up to the index at."""

    def __init__(self, at):
        self.at = at


class InvalidScripts(BesidesError):
    """No lot of scripts."""


class InvalidLot(BesidesError):
    """No lot of small companies."""


class InvalidStock(BesidesError):
    """No stock of scripts."""


class InvalidGoal(BesidesError):
    """No goal for the company."""


class InvalidPairs(BesidesError):
    """No pairs of companies with as many people."""


class InvalidWish(BesidesError):
    """No wish."""


class InvalidWeaving(BesidesError):
    """No weaving of two scripts."""


class InvalidSummary(BesidesError):
    """No summary."""


class InvalidOwn(BesidesError):
    """No ties between named ones."""


class InvalidOne(BesidesError):
    """No named one."""


class InvalidTimes(BesidesError):
    """No number of times."""


class InvalidSupply(BesidesError):
    """No supply of deeds."""


class InvalidFacts(BesidesError):
    """No facts."""


class InvalidSided(BesidesError):
    """No sided company."""


class InvalidSidedScript(BesidesError):
    """No sided script."""


class InvalidBook(BesidesError):
    """No day-book."""


class InvalidGuest(BesidesError):
    """No guest of the day-book."""


class InvalidDeed(BesidesError):
    """No deed for the number of named ones."""


class InvalidFriends(BesidesError):
    """No people who are there."""


class NothingToUndo(BesidesError):
    """No entry is left to be taken back."""


class NothingToRedo(BesidesError):
    """No entry is left to be done again."""
