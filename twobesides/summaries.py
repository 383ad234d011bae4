"""Summaries of companies: how many people there are of each kind, and how many of them know one another."""

from twobesides.checks import check_company, check_named, check_summary
from twobesides.errors import TooMany
from twobesides.forms import MOST_PEOPLE, is_summary_of
from twobesides.kinds import company_of_kinds, kinds_of, own_ties, pairs_of_kinds
from twobesides.places import count_ones
from twobesides.ties import pair_of, pairs_besides


def is_summary(named, value):
    """Return whether any value is a summary."""
    check_named(named)
    return is_summary_of(named, value)


def summary_of(named, company):
    """Return the summary of a company."""
    check_company(named, company)
    kinds = kinds_of(named, company)
    numbers = tuple([kinds.count(kind) for kind in range(1 << named)])
    tied = {pair: 0 for pair in pairs_of_kinds(named)}
    for one, other in company[1]:
        if one >= named:
            pair = pair_of(kinds[one - named], kinds[other - named])
            tied[pair] = tied[pair] + 1
    return own_ties(named, company), numbers, tuple(list(tied.values()))


def ties_of_summary(named, summary):
    """Return how many ties each company with a summary has in all."""
    check_summary(named, summary)
    own, numbers, tied = summary
    return len(own) + sum([count_ones(kind) * many for kind, many in enumerate(numbers)]) + sum(tied)


def company_for(named, summary):
    """Return any company with a summary."""
    check_summary(named, summary)
    own, numbers, tied = summary
    if named + sum(numbers) > MOST_PEOPLE:
        raise TooMany(MOST_PEOPLE)
    kinds = [kind for kind, many in enumerate(numbers) for _ in range(many)]
    left = {pair: many for pair, many in zip(pairs_of_kinds(named), tied)}
    known = []
    for one, other in pairs_besides(named, named + len(kinds)):
        # The kinds ascend: each pair stands as a pair of kinds does.
        pair = (kinds[one - named], kinds[other - named])
        if left[pair] > 0:
            left[pair] = left[pair] - 1
            known.append((one, other))
    return company_of_kinds(named, own, kinds, known)
