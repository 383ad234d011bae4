"""Ties of companies: plain work on values that have been checked."""


def pairs_of(people):
    """Return the list of all pairs of so many people, the lesser one first, in Python's order."""
    return [(one, other) for one in range(people) for other in range(one + 1, people)]


def pairs_besides(named, people):
    """Return the list of all pairs of people besides, the lesser one first, in Python's order."""
    return [pair for pair in pairs_of(people) if pair[0] >= named]


def pair_of(one, other):
    """Return the pair of two people, or of two numbers, the lesser one first."""
    return (one, other) if one < other else (other, one)


def all_companies(people):
    """Return the list of all companies of so many people, in Python's order."""
    told = [()]
    for pair in pairs_of(people)[::-1]:
        # A tuple that begins with this pair stands behind () and ahead of those that begin later.
        told = [()] + [(pair,) + ties for ties in told] + told[1:]
    return [(people, ties) for ties in told]


def part_for(named, company, besides):
    """Return the part of a company for a tuple of unlike people besides."""
    people = tuple(range(named)) + besides
    known = {tie: True for tie in company[1]}
    ties = [(one, other) for one, other in pairs_of(len(people)) if pair_of(people[one], people[other]) in known]
    return len(people), tuple(ties)


def renumbered(company, numbers):
    """Return a company in which each person has the number that stands at its index."""
    ties = [pair_of(numbers[one], numbers[other]) for one, other in company[1]]
    return company[0], tuple(sorted(ties))


def put_together(named, company, other):
    """Return a company to which the people besides of another one with the same start come, as they are there.

    They come behind the others, and none of these knows any of those.
    """
    come = company[0] - named
    ties = [(one if one < named else one + come, person + come) for one, person in other[1] if person >= named]
    return other[0] + come, tuple(sorted(company[1] + tuple(ties)))
