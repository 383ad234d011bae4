"""Ways that lead views into wishes."""

from twobesides.checks import check_few_named, check_number, check_stock
from twobesides.errors import InvalidWish, TooMany
from twobesides.forms import are_unlike_between, is_ascending
from twobesides.tables import script_tables
from twobesides.ties import all_companies, part_for
from twobesides.viewlots import MOST_LOTS, ways_to_lots
from twobesides.ways import all_ahead


def turned_views(named):
    """Return the list of the numbers of the turned views of all views."""
    views = all_companies(named + 2)
    numbers = {view: number for number, view in enumerate(views)}
    return [numbers[part_for(named, view, (named + 1, named))] for view in views]


def turned_view(named, number):
    """Return the number of the turned view of a view."""
    check_few_named(named)
    turned = turned_views(named)
    check_number(number, 0, len(turned) - 1)
    return turned[number]


def check_wish(named, wish):
    """Refuse what is no ascending tuple of numbers of views with those of all their turned views."""
    turned = turned_views(named)
    if not are_unlike_between(wish, 0, len(turned) - 1) or not is_ascending(wish):
        raise InvalidWish("these are no numbers of views, in ascending order")
    if not all([turned[number] in wish for number in wish]):
        raise InvalidWish("a turned view is not in the wish")


def bringing_way(named, stock, wish):
    """Return the least way that leads all views to views of a wish, or None."""
    check_few_named(named)
    check_stock(named, stock)
    check_wish(named, wish)
    lots = ways_to_lots(named, stock)
    for lot, way in lots:
        if all([number in wish for number in lot]):
            return way
    if len(lots) > MOST_LOTS:
        raise TooMany(MOST_LOTS)
    return None


def brought_views(named, stock, wish):
    """Return the ascending tuple of the numbers of all views which some way leads to a view of a wish."""
    check_few_named(named)
    check_stock(named, stock)
    check_wish(named, wish)
    tables = script_tables(named, stock)
    behind = {number: [table[number] for table in tables] for number in range(len(tables[0]))}
    return tuple(sorted(all_ahead(wish, behind)))
