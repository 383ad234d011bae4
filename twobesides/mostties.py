"""How many ties a script leaves at most and at least, and of which company."""

from twobesides.checks import check_number, check_script
from twobesides.kinds import company_of_kinds, pairs_of_kinds
from twobesides.kindtables import kinds_behind, knowing_behind, number_table, own_behind
from twobesides.places import count_ones
from twobesides.ties import all_companies, pairs_besides

MOST_FILLED = 6


def most_ties(named, script, besides):
    """Return any pair of the greatest number of ties that a script leaves with so many besides, and of a company."""
    check_script(named, script)
    check_number(besides, 0, MOST_FILLED)
    return best_left(named, script, besides, 1)


def least_ties(named, script, besides):
    """Return any pair of the least number of ties that a script leaves with so many besides, and of a company."""
    check_script(named, script)
    check_number(besides, 0, MOST_FILLED)
    number, company = best_left(named, script, besides, -1)
    return -number, company


def best_left(named, script, besides, worth):
    """Return the pair of the best number of ties that a script leaves, each of some worth, and of a company ahead."""
    table = number_table(named, script)
    told = [best_with(named, table, own, besides, worth) for _, own in all_companies(named)]
    return max(told, key=lambda row: row[0])


def best_with(named, table, own, besides, worth):
    """Return what best_left does, for some ties between named ones."""
    gains = [worth * count_ones(kind) for kind in kinds_behind(named, table, own)]
    best = {}
    for pair, (apart, known) in zip(pairs_of_kinds(named), knowing_behind(named, table, own)):
        # What is best for two people is told beside whether they know one another ahead, then.
        best[pair] = max((worth * apart, 0), (worth * known, 1))
    rows = [[best[min(kind, other), max(kind, other)][0] for other in range(len(gains))] for kind in range(len(gains))]
    number, kinds = best_filled(rows, gains, list(range(len(gains))), besides)
    known = [(one, other) for one, other in pairs_besides(named, named + besides)
             if best[kinds[one - named], kinds[other - named]][1] == 1]
    return worth * len(own_behind(named, table, own)) + number, company_of_kinds(named, own, kinds, known)


def best_filled(rows, gains, kinds, left):
    """Return the pair of the best number that so many people more give, of some kinds, and of the tuple of their kinds.

    A gain is what one person of a kind gives, beside those who are there; a row tells what one of
    a kind gives to one of each other kind.
    """
    if left == 0:
        return 0, ()
    told = []
    for index, kind in enumerate(kinds):
        # Of other two kinds all people can be of one of both, and give no less.
        beside = [other for other in kinds[index:]
                  if other == kind or 2 * rows[kind][other] > rows[kind][kind] + rows[other][other]]
        more = [gain + given for gain, given in zip(gains, rows[kind])]
        number, others = best_filled(rows, more, beside, left - 1)
        told.append((gains[kind] + number, (kind,) + others))
    return max(told)
