"""Lots of small companies that must not stand among people, and what is clear of them."""

from twobesides.barred import barred_by, first_of_all, least_form, most_people
from twobesides.checks import check_company, check_lot, check_named, check_number, check_small
from twobesides.forms import is_lot_of, most_small
from twobesides.orders import in_all_orders, orders_of
from twobesides.places import count_ones, count_places
from twobesides.ties import part_for


def is_barred_lot(named, value):
    """Return whether any value is a lot of small companies."""
    check_named(named)
    return is_lot_of(named, value)


def least_copy(named, small):
    """Return the least copy of a small company."""
    check_small(named, small)
    return min(in_all_orders(named, small))


def held_at(named, company, small):
    """Return the least tuple of people besides for which the part of a company is a small one, or None."""
    check_company(named, company)
    check_small(named, small)
    for besides in orders_of(tuple(range(named, company[0])), small[0] - named):
        if part_for(named, company, besides) == small:
            return besides
    return None


def is_clear(named, company, lot):
    """Return whether a company is clear of a lot."""
    check_company(named, company)
    check_lot(named, lot)
    barred = {small: True for small in lot}
    for many in sorted(set([small[0] - named for small in lot])):
        besides = orders_of(tuple(range(named, company[0])), many)
        if any([part_for(named, company, some) in barred for some in besides]):
            return False
    return True


def least_lot(named, lot):
    """Return the least form of a lot."""
    check_lot(named, lot)
    return least_form(named, barred_by(named, lot, most_people(named, lot)))


def are_lots_alike(named, lot, mate):
    """Return whether two lots have the same clear companies."""
    check_lot(named, lot)
    check_lot(named, mate)
    most = most_people(named, lot + mate)
    return barred_by(named, lot, most) == barred_by(named, mate, most)


def clear_apart(named, lot, mate):
    """Return the least company that is clear of the first lot and not of the second one, or None."""
    check_lot(named, lot)
    check_lot(named, mate)
    # With more people than the second lot tells of, a part is such a company already.
    most = most_people(named, mate)
    both = zip(barred_by(named, lot, most), barred_by(named, mate, most))
    return first_of_all(named, [other & ~some for some, other in both])


def count_clear(named, lot, people):
    """Return how many companies of so many people are clear of a lot."""
    check_lot(named, lot)
    check_number(people, named, most_small(named))
    return (1 << count_places(people)) - count_ones(barred_by(named, lot, people)[-1])
