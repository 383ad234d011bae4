"""Which companies come of one by scripts of a stock, and by which ways."""

from twobesides.checks import check_company, check_few_besides, check_goal, check_number, check_stock
from twobesides.led import count_ways_led, row_of, ways_led
from twobesides.orders import in_all_orders
from twobesides.parts import company_of_parts

MOST_INDICES = 60
MOST_EXCHANGED = 5


def companies_led(named, company, stock):
    """Return the tuple of the companies that come of a company, as they are met."""
    check_company(named, company)
    check_stock(named, stock)
    return tuple(company_of_parts(named, company[0], row) for row in ways_led(named, [company], stock))


def count_ways(named, company, goal, stock, many):
    """Return how many ways of so many indices lead a company to a goal."""
    check_company(named, company)
    check_goal(named, company, goal)
    check_stock(named, stock)
    check_number(many, 0, MOST_INDICES)
    return count_ways_led(named, [company], [goal], stock, many)


def way_but_names(named, company, goal, stock):
    """Return the least way to some company that is a goal in some order of the people besides, or None."""
    check_company(named, company)
    check_goal(named, company, goal)
    check_stock(named, stock)
    check_few_besides(named, company, MOST_EXCHANGED)
    ways = ways_led(named, [company], stock)
    goals = {row_of(named, [alike]): True for alike in in_all_orders(named, goal)}
    for row in ways:
        if row in goals:
            return ways[row]
    return None
