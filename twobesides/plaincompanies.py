"""Companies whatever the order of the people besides, and numbers of companies."""

from math import factorial, gcd

from twobesides.checks import check_company, check_few_besides, check_named, check_number
from twobesides.forms import MOST_PEOPLE
from twobesides.orders import count_orders, in_all_orders, sums_to
from twobesides.ties import pairs_of

MOST_ORDERED = 5
MOST_COUNTED = 20


def plain_company(named, company):
    """Return the plain company of a company."""
    check_company(named, company)
    check_few_besides(named, company, MOST_ORDERED)
    return min(in_all_orders(named, company))


def count_own_orders(named, company):
    """Return in how many orders of its people besides a company is itself."""
    check_company(named, company)
    check_few_besides(named, company, MOST_ORDERED)
    return in_all_orders(named, company).count(company)


def company_number(named, company):
    """Return the number of a company."""
    check_company(named, company)
    number = 0
    for index, pair in enumerate(pairs_of(company[0])):
        if pair in company[1]:
            number = number + (1 << index)
    return number


def company_at(named, people, number):
    """Return the company of so many people with a number."""
    check_named(named)
    check_number(people, named, MOST_PEOPLE)
    pairs = pairs_of(people)
    check_number(number, 0, (1 << len(pairs)) - 1)
    return people, tuple(pair for index, pair in enumerate(pairs) if number >> index & 1)


def count_unlike(named, besides):
    """Return how many companies there are with so many besides, but for their order."""
    check_named(named)
    check_number(besides, 0, MOST_COUNTED)
    # All orders leave as many companies themselves, in sum, as there are orders for each kind.
    itself = [count_orders(lengths) << free_ties(named, lengths) for lengths in sums_to(besides, besides)]
    return sum(itself) // factorial(besides)


def free_ties(named, lengths):
    """Return how many ties can be chosen freely if an order, in rings of these lengths, is to change nothing."""
    free = named * (named - 1) // 2 + named * len(lengths)
    for index, length in enumerate(lengths):
        free = free + length // 2 + sum([gcd(length, other) for other in lengths[:index]])
    return free
