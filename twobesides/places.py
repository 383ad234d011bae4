"""All companies of so many people at once, by numbers of their own.

The place of a pair is its index where pairs with lesser greater ones come first, and the number of
a company, in this file and where it is said so, is the sum of 2 to the power of the places of its
ties: so it stays the same when people come whom nobody knows. Many companies with as many people
are told by one integer, too: its bit k is 1 if the company with the number k is among them.
"""

from twobesides.bundles import Bundle
from twobesides.ties import pairs_of


def place_of(pair):
    """Return the place of a pair."""
    one, other = pair
    return other * (other - 1) // 2 + one


def count_places(people):
    """Return how many pairs of so many people there are."""
    return people * (people - 1) // 2


def bits_at(place, places):
    """Return the integer whose bit k, for each k of so many bits, is the bit of k at a place."""
    told = ((1 << (1 << place)) - 1) << (1 << place)
    for longer in range(place + 1, places):
        told = told | told << (1 << longer)
    return told


def every_bundle(people):
    """Return the bundle of all companies of so many people, each with its number as its index."""
    places = count_places(people)
    ties = {pair: bits_at(place_of(pair), places) for pair in pairs_of(people)}
    return Bundle(people, (1 << (1 << places)) - 1, ties)


def numbers_across(rows, many):
    """Return the list of so many numbers: the bit 0 of each one is told by the first row of bits, and so on."""
    # Zeros ahead change no number; without them no number would be told where there is no row.
    zeros = "0" * many
    signs = [f"{row:b}".zfill(many)[::-1] for row in rows[::-1]]
    return [int("".join(told), 2) for told in zip(zeros, *signs)]


def numbers_in(bundle):
    """Return the list of the numbers of all companies of a bundle."""
    pairs = sorted(bundle.ties, key=place_of)
    return numbers_across([bundle.ties[pair] for pair in pairs], bundle.full.bit_length())


def numbers_in_order(people):
    """Return the list of the numbers of all companies of so many people, these in Python's order."""
    told = [0]
    for pair in pairs_of(people)[::-1]:
        # A company that has this pair first stands behind that without ties and ahead of all others.
        told = [0] + [number | 1 << place_of(pair) for number in told] + told[1:]
    return told


def number_of(ties):
    """Return the number of a company with these ties."""
    return sum([1 << place_of(tie) for tie in ties])


def company_numbered(people, number):
    """Return the company of so many people that has a number."""
    return people, tuple([pair for pair in pairs_of(people) if number >> place_of(pair) & 1 == 1])


def first_company(people, some):
    """Return the first company, in Python's order, of those of so many people that an integer tells, or None."""
    if some == 0:
        return None
    ties = ()
    for pair in pairs_of(people):
        if some >> number_of(ties) & 1 == 1:
            # The one that has these ties and no more stands ahead of all that have more.
            return people, ties
        known = some & bits_at(place_of(pair), count_places(people))
        if known != 0:
            some = known
            ties = ties + (pair,)
    return people, ties


def starts_of_views(named, views):
    """Return the integer of the numbers of the starts of those views whose numbers an integer tells."""
    # The places of the ties between named ones come first: the others are folded, the last one first.
    own = count_places(named)
    for place in range(count_places(named + 2) - 1, own - 1, -1):
        views = views | views >> (1 << place)
    return views & ((1 << (1 << own)) - 1)


def views_with_start(named, number):
    """Return the integer of the numbers of all views with the start that has a number."""
    views = 1 << number
    for place in range(count_places(named), count_places(named + 2)):
        views = views | views << (1 << place)
    return views


def count_ones(some):
    """Return how many bits of an integer are 1."""
    return f"{some:b}".count("1")
