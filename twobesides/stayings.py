"""How many companies stay as they are by scripts."""

from math import comb

from twobesides.checks import check_many_besides, check_script, check_times
from twobesides.cycles import table_done
from twobesides.kinds import views_told
from twobesides.parts import part_people
from twobesides.tables import people_tables
from twobesides.ties import all_companies


def count_staying(named, script, besides):
    """Return how many companies with so many people besides stay by a script."""
    check_script(named, script)
    check_many_besides(named, besides)
    return count_back(named, script, 1, besides)


def count_coming_back(named, script, times, besides):
    """Return how many companies with so many people besides stay by a script done so many times."""
    check_script(named, script)
    check_times(times)
    check_many_besides(named, besides)
    return count_back(named, script, times, besides)


def count_back(named, script, times, besides):
    """Return what count_coming_back does, of what has been checked."""
    people = part_people(named, named + besides)
    table = table_done(people_tables(people, (script,))[0], times)
    stay = [company for index, company in enumerate(all_companies(people)) if table[index] == index]
    if besides < 2:
        return len(stay)
    ties = {}
    for own, first, second, _ in views_told(named, stay):
        many = ties.setdefault(own, {})
        many[(first, second)] = many.get((first, second), 0) + 1
    return sum([count_filled(1 << named, ties[own], besides, ()) for own in ties])


def count_filled(kinds, ties, left, placed):
    """Return in how many ways so many people more can have kinds, and ties to one another and to those placed.

    Placed are so many people of the first kinds as the tuple tells; the others are of later ones.
    """
    if len(placed) == kinds:
        return 1 if left == 0 else 0
    told = 0
    for many in range(left + 1):
        ways = comb(left, many) * count_tied(ties, placed, many)
        if ways > 0:
            told = told + ways * count_filled(kinds, ties, left - many, placed + (many,))
    return told


def count_tied(ties, placed, many):
    """Return in how many ways so many people of the next kind can be tied to one another, and to those placed."""
    kind = len(placed)
    ways = powered(ties.get((kind, kind), 0), many * (many - 1) // 2)
    for other, there in enumerate(placed):
        ways = ways * powered(ties.get((other, kind), 0), many * there)
    return ways


def powered(number, times):
    """Return a number, times itself so often."""
    told = 1
    for _ in range(times):
        told = told * number
    return told
