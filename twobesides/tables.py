"""Tables of scripts: what comes of each of many companies, by their indices in Python's order."""

from twobesides.bundles import items_done
from twobesides.places import count_places, every_bundle, numbers_in, numbers_in_order


def script_tables(named, scripts):
    """Return the list of the tables of scripts, over all views."""
    return people_tables(named + 2, scripts)


def people_tables(people, scripts):
    """Return the list of the tables of scripts over all companies of so many people."""
    order = numbers_in_order(people)
    indices = [0] * len(order)
    for index, number in enumerate(order):
        indices[number] = index
    ahead = every_bundle(people)
    tables = []
    for script in scripts:
        behind = numbers_in(items_done(ahead, script))
        tables.append(tuple([indices[behind[number]] for number in order]))
    return tables


def own_table(named):
    """Return the table of the script without items."""
    return tuple(range(1 << count_places(named + 2)))


def joined(first, second):
    """Return the table of two scripts, one behind the other, from the tables of both."""
    return tuple([second[number] for number in first])
