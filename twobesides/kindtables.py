"""What scripts make of kinds of people, and of pairs of these, read off their tables over all views.

The tables go by the numbers of places.py: in the number of a view the ties between named ones come
first, then the kind of the first one besides, that of the second one, and at last whether both know
one another.
"""

from twobesides.bundles import items_done
from twobesides.kinds import pairs_of_kinds
from twobesides.places import count_places, every_bundle, number_of, numbers_in, place_of
from twobesides.ties import pairs_of


def number_table(named, script):
    """Return the list of the number of what comes of each view by a script."""
    return numbers_in(items_done(every_bundle(named + 2), script))


def own_behind(named, table, own):
    """Return the tuple of the ties between named ones that a table makes of such ties."""
    told = table[number_of(own)]
    return tuple([pair for pair in pairs_of(named) if told >> place_of(pair) & 1 == 1])


def kinds_behind(named, table, own):
    """Return the list of what a table makes of each kind, for some ties between named ones."""
    start, shift, kinds = number_of(own), count_places(named), 1 << named
    return [table[start | kind << shift] >> shift & kinds - 1 for kind in range(kinds)]


def knowing_behind(named, table, own):
    """Return the list, for each pair of kinds, of a pair: whether two such people know one another behind a table.

    The first integer is for two who do not know one another ahead, the second one for two who do.
    """
    start, shift = number_of(own), count_places(named)
    last = count_places(named + 2) - 1
    told = []
    for kind, other in pairs_of_kinds(named):
        number = start | kind << shift | other << shift + named
        told.append((table[number] >> last, table[number | 1 << last] >> last))
    return told
