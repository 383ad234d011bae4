"""The tables that come by rows of told scripts, in any order and again and again."""

from twobesides.checks import check_few_named, check_script, check_scripts
from twobesides.errors import TooMany
from twobesides.tables import joined, own_table, script_tables

MOST_TABLES = 500


def count_tables(named, scripts):
    """Return how many unlike tables the scripts of all ways of a lot have."""
    check_few_named(named)
    check_scripts(named, scripts)
    return len(least_ways(named, scripts))


def least_way(named, scripts, script):
    """Return the least way of a lot whose script is alike to a script, or None."""
    check_few_named(named)
    check_scripts(named, scripts)
    check_script(named, script)
    ways = least_ways(named, scripts)
    return ways.get(script_tables(named, (script,))[0])


def least_ways(named, scripts):
    """Return the dict of the least way for each table of a way of a lot."""
    steps = script_tables(named, scripts)
    found = [own_table(named)]
    ways = {found[0]: ()}
    done = 0
    # The tables are found in the order of their least ways: what is ahead of the last index of a
    # least way is a least way, too.
    while done < len(found):
        table = found[done]
        for index, step in enumerate(steps):
            behind = joined(table, step)
            if behind not in ways:
                ways[behind] = ways[table] + (index,)
                found.append(behind)
        if len(found) > MOST_TABLES:
            raise TooMany(MOST_TABLES)
        done = done + 1
    return ways
