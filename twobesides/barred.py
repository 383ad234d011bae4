"""What lots of small companies bar."""

from twobesides.orders import in_all_orders
from twobesides.ties import all_companies, part_for


def without_one(named, company):
    """Return the list of the parts of a company without each one of its people besides."""
    besides = tuple(range(named, company[0]))
    return [part_for(named, company, besides[:index] + besides[index + 1:]) for index in range(len(besides))]


def barred_by(named, lot, most):
    """Return the dict of all companies of at most so many people, in any order, that are not clear of a lot."""
    barred = {company: True for small in lot if small[0] <= most for company in in_all_orders(named, small)}
    for people in range(named + 1, most + 1):
        for company in all_companies(people):
            if any([part in barred for part in without_one(named, company)]):
                barred[company] = True
    return barred


def most_people(named, lot):
    """Return how many people there are at most in the companies of a lot."""
    return max([named] + [small[0] for small in lot])


def least_form(named, barred):
    """Return the least form of all lots that bar the companies of a dict, and no others of at most as many people."""
    least = []
    for company in barred:
        if not any([part in barred for part in without_one(named, company)]):
            least.append(min(in_all_orders(named, company)))
    return tuple(sorted(set(least)))
