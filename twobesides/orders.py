"""Orders of things, and how many orders there are of a kind."""

from math import factorial

from twobesides.ties import part_for


def orders_of(things, many):
    """Return the list of all tuples of so many unlike ones of a tuple of things, those with earlier things first."""
    if many == 0:
        return [()]
    orders = []
    for index, thing in enumerate(things):
        others = things[:index] + things[index + 1:]
        orders = orders + [(thing,) + order for order in orders_of(others, many - 1)]
    return orders


def in_all_orders(named, company):
    """Return the list of a company in each order of its people besides."""
    besides = tuple(range(named, company[0]))
    return [part_for(named, company, order) for order in orders_of(besides, len(besides))]


def sums_to(whole, most):
    """Return the list of all tuples of integers from most down to 1, none ascending, with a sum."""
    if whole == 0:
        return [()]
    told = []
    for first in range(min(whole, most), 0, -1):
        told = told + [(first,) + rest for rest in sums_to(whole - first, first)]
    return told


def count_orders(lengths):
    """Return how many orders of as many things as the sum of lengths go round in rings of these lengths."""
    alike = 1
    for length in lengths:
        alike = alike * length
    for length in sorted(set(lengths)):
        # Rings of one length can stand in the place of one another.
        alike = alike * factorial(lengths.count(length))
    return factorial(sum(lengths)) // alike
