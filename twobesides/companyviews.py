"""Companies told by the views of each two people besides."""

from twobesides.checks import check_company, check_named, check_number
from twobesides.errors import InvalidBesides, InvalidNumber, TooMany
from twobesides.forms import MOST_PEOPLE, are_people_of, is_between, is_tuple_of
from twobesides.parts import besides_told, company_of_parts, part_numbers
from twobesides.ties import all_companies


def view_numbers(named, company):
    """Return the view numbers of a company."""
    check_company(named, company)
    return () if company[0] < named + 2 else part_numbers(named, company)


def check_view_numbers(named, besides, numbers):
    """Refuse what is no tuple of numbers of views, one for each pair of people besides."""
    if not is_tuple_of(numbers, len(besides_told(named, named + besides))):
        raise InvalidNumber("there is one number for each pair of people besides")
    greatest = len(all_companies(named + 2)) - 1
    if not all([is_between(number, 0, greatest) for number in numbers]):
        raise InvalidNumber("these are no numbers of views")


def company_of_views(named, besides, numbers):
    """Return the company with so many besides and with these view numbers, or None."""
    check_named(named)
    check_number(besides, 2, MOST_PEOPLE - named)
    check_view_numbers(named, besides, numbers)
    company = company_of_parts(named, named + besides, numbers)
    # Views that do not agree on a tie have both been heard: then other numbers come of it.
    return company if part_numbers(named, company) == numbers else None


def with_person(named, company, people):
    """Return a company with one person more, behind the others, whom just these people know."""
    check_company(named, company)
    if not are_people_of(company[0], people):
        raise InvalidBesides("these are no people of the company, in ascending order")
    if company[0] == MOST_PEOPLE:
        raise TooMany(MOST_PEOPLE)
    ties = company[1] + tuple((person, company[0]) for person in people)
    return company[0] + 1, tuple(sorted(ties))
