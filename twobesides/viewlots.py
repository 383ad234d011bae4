"""Lots of views to which ways of a stock lead all views."""

from twobesides.tables import own_table, script_tables
from twobesides.ways import least_ways

MOST_LOTS = 1000


def lot_led(lot, table):
    """Return the lot of the views to which a table leads those of a lot."""
    return tuple(sorted(set([table[number] for number in lot])))


def ways_to_lots(named, stock):
    """Return the list of pairs of a lot and its least way, lesser ways first: all of them, or one more than is let."""
    ways = least_ways(own_table(named), script_tables(named, stock), lot_led, MOST_LOTS)
    return list(ways.items())[:MOST_LOTS + 1]
