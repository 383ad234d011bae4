"""Supplies of deeds: which rows of them do what is told of companies ahead and behind."""

from twobesides.checks import check_facts, check_named, check_number, check_supply
from twobesides.forms import MOST_ITEMS, are_facts_of, is_supply_of
from twobesides.led import count_ways_led, row_of, ways_led
from twobesides.orders import orders_of
from twobesides.ties import part_for

MOST_TWINS = 2


def is_supply(named, value):
    """Return whether any value is a supply."""
    check_named(named)
    return is_supply_of(named, value)


def are_facts(named, value):
    """Return whether any value is facts."""
    check_named(named)
    return are_facts_of(named, value)


def supply_row(named, supply, facts):
    """Return the supply row with the fewest indices, and then the first one, whose script does facts, or None."""
    check_supply(named, supply)
    check_facts(named, facts)
    ways = ways_led(named, [ahead for ahead, _ in facts], as_stock(supply))
    return ways.get(row_of(named, [behind for _, behind in facts]))


def count_supply_rows(named, supply, facts, many):
    """Return how many supply rows with so many indices have a script that does facts."""
    check_supply(named, supply)
    check_facts(named, facts)
    check_number(many, 0, MOST_ITEMS)
    goals = [behind for _, behind in facts]
    return count_ways_led(named, [ahead for ahead, _ in facts], goals, as_stock(supply), many)


def as_stock(supply):
    """Return the stock of a supply: each of its deeds as a script."""
    return tuple([(deed,) for deed in supply])


def twin_parts(named, facts):
    """Return the first twin parts of facts, or None."""
    check_facts(named, facts)
    firsts = {}
    told = []
    for index, besides, ahead, behind in parts_of_facts(named, facts):
        # Of all with one part ahead the first one has a twin, if any has: the first one unlike it.
        first = firsts.setdefault(ahead, (index, besides, behind))
        if first[2] != behind:
            told.append((first[0], first[1], index, besides))
    return min(told, default=None)


def parts_of_facts(named, facts):
    """Return the list, for each fact and each few besides, of quadruples (index, besides, part ahead, part behind).

    They stand in Python's order of the first two.
    """
    places = []
    for index, (ahead, behind) in enumerate(facts):
        people = tuple(range(named, ahead[0]))
        for besides in sorted([some for many in range(MOST_TWINS + 1) for some in orders_of(people, many)]):
            places.append((index, besides, part_for(named, ahead, besides), part_for(named, behind, besides)))
    return places
