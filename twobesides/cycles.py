"""Tables that are done again and again."""

from math import lcm

from twobesides.tables import joined


def path_of(table, number):
    """Return the list of the numbers met from a number on, and the index in it to which the last one leads back."""
    places = {}
    while number not in places:
        places[number] = len(places)
        number = table[number]
    return list(places), places[number]


def round_of(table, numbers):
    """Return the pair of the beginning and the round of a table, for some numbers at once."""
    beginning = 0
    whole = 1
    for number in numbers:
        path, back = path_of(table, number)
        beginning = max(beginning, back)
        whole = lcm(whole, len(path) - back)
    return beginning, whole


def table_done(table, times):
    """Return the table of a table done so many times."""
    told = tuple(range(len(table)))
    while times > 0:
        if times & 1 == 1:
            told = joined(told, table)
        table = joined(table, table)
        times = times >> 1
    return told
