"""Scripts that can be undone in all companies, and companies that others let come to one."""

from twobesides.checks import check_script
from twobesides.cycles import round_of
from twobesides.tables import own_table, people_tables, script_tables
from twobesides.ties import all_companies


def is_one_to_one(named, script):
    """Return whether a script is one to one."""
    check_script(named, script)
    return are_unlike(script_tables(named, (script,))[0])


def are_unlike(table):
    """Return whether all numbers of a table are unlike."""
    return len(set(table)) == len(table)


def least_twins(named, script):
    """Return the first twins of a script, those with fewest people first, or None."""
    check_script(named, script)
    for people in range(named, named + 3):
        pair = first_met(people_tables(people, (script,))[0])
        if pair is not None:
            companies = all_companies(people)
            return companies[pair[0]], companies[pair[1]]
    return None


def first_met(table):
    """Return the first pair of unlike indices at which a table has the same number, or None."""
    firsts = {}
    pairs = []
    for index, number in enumerate(table):
        if number in firsts:
            pairs.append((firsts[number], index))
        else:
            firsts[number] = index
    return min(pairs, default=None)


def undoing_table(named, script):
    """Return the tuple with, for each view, the number of the view that comes to it by a script, or None."""
    check_script(named, script)
    table = script_tables(named, (script,))[0]
    if not are_unlike(table):
        return None
    ahead = {number: index for index, number in enumerate(table)}
    return tuple(ahead[number] for number in range(len(table)))


def undoing_times(named, script):
    """Return how many times more a script, done once, is to be done until all companies are as they were, or None."""
    check_script(named, script)
    beginning, whole = round_of(script_tables(named, (script,))[0], own_table(named))
    return whole - 1 if beginning == 0 else None
