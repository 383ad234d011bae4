"""Ways that make all views one view."""

from twobesides.checks import check_few_named, check_stock
from twobesides.errors import TooMany
from twobesides.tables import own_table, script_tables
from twobesides.ties import pair_of, pairs_of
from twobesides.viewlots import MOST_LOTS, ways_to_lots
from twobesides.ways import all_ahead


def lasting_pair(named, stock):
    """Return the least pair of numbers of views that last, or None."""
    check_few_named(named)
    check_stock(named, stock)
    return first_lasting(named, stock)


def first_lasting(named, stock):
    """Return what lasting_pair does, of what has been checked."""
    tables = script_tables(named, stock)
    views = own_table(named)
    pairs = pairs_of(len(views))
    behind = {(one, other): [pair_of(table[one], table[other]) for table in tables] for one, other in pairs}
    made_one = all_ahead([(number, number) for number in views], behind)
    return min([pair for pair in pairs if pair not in made_one], default=None)


def forgetting_way(named, stock):
    """Return the least way that makes all views one, or None."""
    check_few_named(named)
    check_stock(named, stock)
    if first_lasting(named, stock) is not None:
        return None
    for lot, way in ways_to_lots(named, stock):
        if len(lot) == 1:
            return way
    raise TooMany(MOST_LOTS)
