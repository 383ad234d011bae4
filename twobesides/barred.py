"""What lots of small companies bar: for each number of people one integer, as places.py tells companies by it."""

from twobesides.places import count_places, every_bundle, first_company, number_of, place_of
from twobesides.ties import pair_of


def pairs_exchanged(whole, some, pair, other):
    """Return the integer of companies with two pairs, that with the lesser place first, in the place of one another."""
    shift = (1 << place_of(other)) - (1 << place_of(pair))
    lesser = whole.ties[pair] & (whole.full ^ whole.ties[other])
    stay = whole.full ^ (lesser | lesser << shift)
    return some & stay | (some & lesser) << shift | some >> shift & lesser


def people_exchanged(whole, some, one, other):
    """Return the integer of the companies of an integer with two people, the lesser one first, exchanged."""
    for third in range(whole.people):
        if third != one and third != other:
            some = pairs_exchanged(whole, some, pair_of(one, third), pair_of(other, third))
    return some


def in_any_order(named, whole, some):
    """Return the integer of the companies of an integer in all orders of their people besides."""
    # So often exchanged with the next one, or not, people come into any order.
    for _ in range(named + 1, whole.people):
        for one in range(named, whole.people - 1):
            some = some | people_exchanged(whole, some, one, one + 1)
    return some


def with_one_more(named, whole, some):
    """Return the integer of all companies that are one of an integer, in any order, but for one person besides.

    The integer tells companies with one person less, each of them in all its orders.
    """
    last = whole.people - 1
    for place in range(count_places(last), count_places(last + 1)):
        some = some | some << (1 << place)
    told = some
    for person in range(named, last):
        told = told | people_exchanged(whole, some, person, last)
    return told


def barred_by(named, lot, most):
    """Return the list, for each number of people up to one, of the integer of the companies not clear of a lot."""
    barred = []
    for people in range(named, most + 1):
        whole = every_bundle(people)
        some = 0
        for small in lot:
            if small[0] == people:
                some = some | 1 << number_of(small[1])
        some = in_any_order(named, whole, some)
        if people > named:
            some = some | with_one_more(named, whole, barred[-1])
        barred.append(some)
    return barred


def most_people(named, lot):
    """Return how many people there are at most in the companies of a lot."""
    return max([named] + [small[0] for small in lot])


def least_form(named, barred):
    """Return the least form of all lots that bar, of each number of people from the least on, what integers tell."""
    least = []
    for index, some in enumerate(barred):
        whole = every_bundle(named + index)
        if index > 0:
            some = some & ~with_one_more(named, whole, barred[index - 1])
        while some != 0:
            copies = in_any_order(named, whole, some & -some)
            least.append(first_company(whole.people, copies))
            some = some ^ copies
    return tuple(sorted(least))


def first_of_all(named, told):
    """Return the first company, in Python's order, that integers tell, from the least number of people on, or None."""
    for index, some in enumerate(told):
        if some != 0:
            return first_company(named + index, some)
    return None
