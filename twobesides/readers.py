"""Texts, taken sign by sign and refused at the first sign behind which no text can come to its end."""

from twobesides.errors import InvalidText
from twobesides.forms import MOST_ITEMS


class Reader:
    """A text, the index at of the next sign, and how many deeds and choices are left to it."""

    def __init__(self, text):
        self.text = text
        self.at = 0
        self.left = MOST_ITEMS

    def ended(self):
        """Return whether all signs have been taken."""
        return self.at == len(self.text)

    def take(self, signs):
        """Return the next sign, which must be one of a string of signs."""
        if self.ended() or self.text[self.at] not in signs:
            raise InvalidText(self.at)
        self.at = self.at + 1
        return self.text[self.at - 1]

    def take_figure(self, numbers):
        """Return the next figure, which must be one of a list of numbers."""
        return int(self.take("".join([str(number) for number in numbers])))

    def take_answers(self, many):
        """Return a tuple of so many answers."""
        return tuple([self.take_figure([0, 1]) for _ in range(many)])


def reader_of(text):
    """Return the reader of a text, which must be a string."""
    if not isinstance(text, str):
        raise InvalidText(0)
    return Reader(text)
