"""Companies: who there is, and who knows whom."""

from twobesides.checks import check_besides, check_company, check_named, check_other, check_person
from twobesides.forms import is_company_of
from twobesides.ties import pair_of, part_for


def is_company(named, value):
    """Return whether any value is a company."""
    check_named(named)
    return is_company_of(named, value)


def do_know(named, company, person, other):
    """Return whether two people of a company know one another."""
    check_company(named, company)
    check_person(company, person)
    check_other(company, person, other)
    return pair_of(person, other) in company[1]


def known_to(named, company, person):
    """Return the ascending tuple of the people who know a person."""
    check_company(named, company)
    check_person(company, person)
    return tuple(other for other in range(company[0]) if pair_of(person, other) in company[1])


def part_of(named, company, besides):
    """Return the part of a company for a tuple of unlike people besides."""
    check_company(named, company)
    check_besides(named, company, besides)
    return part_for(named, company, besides)
