"""Companies told by the views of each two people besides."""

from twobesides.checks import check_company, check_named, check_number
from twobesides.errors import InvalidBesides, InvalidNumber, TooMany
from twobesides.forms import MOST_PEOPLE, are_unlike_between, is_ascending, is_between
from twobesides.ties import all_companies, pair_of, pairs_of, part_for


def pairs_besides(named, people):
    """Return the list of all pairs of people besides, the lesser one first, in order."""
    return [pair for pair in pairs_of(people) if pair[0] >= named]


def view_numbers(named, company):
    """Return the view numbers of a company."""
    check_company(named, company)
    return numbers_told(named, company)


def numbers_told(named, company):
    """Return the view numbers of a company that has been checked."""
    numbers = {view: number for number, view in enumerate(all_companies(named + 2))}
    return tuple(numbers[part_for(named, company, pair)] for pair in pairs_besides(named, company[0]))


def check_view_numbers(named, besides, numbers):
    """Refuse what is no tuple of numbers of views, one for each pair of people besides."""
    pairs = pairs_besides(named, named + besides)
    if not (isinstance(numbers, tuple) and len(numbers) == len(pairs)):
        raise InvalidNumber("there is one number for each pair of people besides")
    greatest = len(all_companies(named + 2)) - 1
    if not all([is_between(number, 0, greatest) for number in numbers]):
        raise InvalidNumber("these are no numbers of views")


def company_of_views(named, besides, numbers):
    """Return the company with so many besides and with these view numbers, or None."""
    check_named(named)
    check_number(besides, 2, MOST_PEOPLE - named)
    check_view_numbers(named, besides, numbers)
    views = all_companies(named + 2)
    known = {}
    for pair, number in zip(pairs_besides(named, named + besides), numbers):
        people = tuple(range(named)) + pair
        for one, other in views[number][1]:
            known[pair_of(people[one], people[other])] = True
    company = (named + besides, tuple(sorted(known)))
    # Views that do not agree on a tie have both been heard: then other numbers come of it.
    return company if numbers_told(named, company) == numbers else None


def with_person(named, company, people):
    """Return a company with one person more, behind the others, whom just these people know."""
    check_company(named, company)
    if not are_unlike_between(people, 0, company[0] - 1) or not is_ascending(people):
        raise InvalidBesides("these are no people of the company, in ascending order")
    if company[0] == MOST_PEOPLE:
        raise TooMany(MOST_PEOPLE)
    ties = company[1] + tuple((person, company[0]) for person in people)
    return company[0] + 1, tuple(sorted(ties))
