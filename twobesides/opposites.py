"""Opposites of companies and scripts, and other names of the named ones."""

from twobesides.checks import check_company, check_script
from twobesides.errors import InvalidOrder
from twobesides.forms import are_unlike_between, is_tuple_of
from twobesides.ties import pairs_of, renumbered

OPPOSITE_WORDS = {"know": "part", "part": "know", "turn": "turn"}


def check_order(named, order):
    """Refuse what is no order of the named ones."""
    if not is_tuple_of(order, named) or not are_unlike_between(order, 0, named - 1):
        raise InvalidOrder("this is no tuple of all named ones, each once")


def opposite(named, company):
    """Return the opposite of a company."""
    check_company(named, company)
    return company[0], tuple(pair for pair in pairs_of(company[0]) if pair not in company[1])


def opposite_script(named, script):
    """Return the opposite of a script."""
    check_script(named, script)
    return opposite_items(script)


def opposite_items(items):
    """Return the opposites of deeds and choices."""
    return tuple(opposite_item(item) for item in items)


def opposite_item(item):
    """Return the opposite of a deed, or of a choice."""
    if item[0] == "ask":
        return item[:3] + (opposite_items(item[4]), opposite_items(item[3]))
    if item[0] == "tie":
        return item[:3] + (OPPOSITE_WORDS[item[3]],)
    return item[:-1] + (tuple(1 - answer for answer in item[-1][::-1]),)


def renamed_company(named, company, order):
    """Return a company with each named one replaced with the one at its index in an order."""
    check_company(named, company)
    check_order(named, order)
    return renumbered(company, order + tuple(range(named, company[0])))


def renamed_script(named, script, order):
    """Return a script with each named one replaced with the one at its index in an order."""
    check_script(named, script)
    check_order(named, order)
    return renamed_items(script, order)


def renamed_items(items, order):
    """Return deeds and choices renamed by an order."""
    return tuple(renamed_item(item, order) for item in items)


def renamed_item(item, order):
    """Return a deed, or a choice, renamed by an order."""
    if item[0] == "pairs":
        return "pairs", order[item[1]], item[2]
    head = (item[0], order[item[1]], order[item[2]])
    if item[0] == "ask":
        return head + (renamed_items(item[3], order), renamed_items(item[4], order))
    return head + (item[3],)
