"""Companies told by the ties between named ones, and by which of these the people besides know."""


def pairs_of_kinds(named):
    """Return the list of all pairs of kinds, the first one at most the other one, in Python's order."""
    kinds = range(1 << named)
    return [(kind, other) for kind in kinds for other in kinds if kind <= other]


def count_pairs(numbers, kind, other):
    """Return how many pairs of people of two kinds there are, by how many people there are of each kind."""
    if kind == other:
        return numbers[kind] * (numbers[kind] - 1) // 2
    return numbers[kind] * numbers[other]


def own_ties(named, company):
    """Return the tuple of the ties between named ones."""
    return tuple(tie for tie in company[1] if tie[1] < named)


def kinds_of(named, company):
    """Return the tuple of the kinds of all people besides."""
    kinds = [0] * (company[0] - named)
    for one, other in company[1]:
        if one < named <= other:
            kinds[other - named] = kinds[other - named] | 1 << one
    return tuple(kinds)


def company_of_kinds(named, own, kinds, known):
    """Return the company with these ties between named ones, these kinds, and these ties between people besides."""
    ties = list(own) + list(known)
    for index, kind in enumerate(kinds):
        ties = ties + [(one, named + index) for one in range(named) if kind >> one & 1 == 1]
    return named + len(kinds), tuple(sorted(ties))


def views_told(named, views):
    """Return the list, for each view, of its ties between named ones, both kinds, and 1 if both know one another."""
    told = []
    for view in views:
        first, second = kinds_of(named, view)
        told.append((own_ties(named, view), first, second, 1 if (named, named + 1) in view[1] else 0))
    return told
