"""The tables that come by rows of told scripts, in any order and again and again."""

from twobesides.checks import check_few_named, check_script, check_scripts
from twobesides.errors import TooMany
from twobesides.tables import joined, own_table, script_tables
from twobesides.ways import least_ways

MOST_TABLES = 500


def count_tables(named, scripts):
    """Return how many unlike tables the scripts of all ways of a lot have."""
    check_few_named(named)
    check_scripts(named, scripts)
    return len(ways_to_tables(named, scripts))


def least_way(named, scripts, script):
    """Return the least way of a lot whose script is alike to a script, or None."""
    check_few_named(named)
    check_scripts(named, scripts)
    check_script(named, script)
    ways = ways_to_tables(named, scripts)
    return ways.get(script_tables(named, (script,))[0])


def ways_to_tables(named, scripts):
    """Return the dict of the least way for each table of a way of a lot."""
    ways = least_ways(own_table(named), script_tables(named, scripts), joined, MOST_TABLES)
    if len(ways) > MOST_TABLES:
        raise TooMany(MOST_TABLES)
    return ways
