"""People besides whom all others tell not apart."""

from twobesides.checks import check_company, check_goal
from twobesides.ties import pair_of, pairs_besides


def twins_of(named, company):
    """Return the list of the tuples of all people besides who are twins to one another."""
    check_company(named, company)
    groups = {}
    for person in range(named, company[0]):
        first = min([other for other in range(named, person + 1) if are_twins(company, other, person)])
        groups[first] = groups.get(first, ()) + (person,)
    return list(groups.values())


def torn_twins(named, company, goal):
    """Return the least pair of people besides who are twins in a company, and not in a goal, or None."""
    check_company(named, company)
    check_goal(named, company, goal)
    for one, other in pairs_besides(named, company[0]):
        if are_twins(company, one, other) and not are_twins(goal, one, other):
            return one, other
    return None


def are_twins(company, one, other):
    """Return whether each third person knows both of two people, or none; one person is twin to itself here."""
    thirds = [third for third in range(company[0]) if third != one and third != other]
    return all([(pair_of(one, third) in company[1]) == (pair_of(other, third) in company[1]) for third in thirds])
