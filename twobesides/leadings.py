"""Which companies come of one by scripts of a stock, and by which ways."""

from twobesides.checks import check_company, check_few_besides, check_goal, check_number, check_stock
from twobesides.led import row_led, row_of, steps_of, ways_led
from twobesides.orders import in_all_orders
from twobesides.parts import company_of_parts

MOST_INDICES = 60
MOST_EXCHANGED = 5


def companies_led(named, company, stock):
    """Return the tuple of the companies that come of a company, as they are met."""
    check_company(named, company)
    check_stock(named, stock)
    return tuple(company_of_parts(named, company[0], row) for row in ways_led(named, [company], stock))


def count_ways(named, company, goal, stock, many):
    """Return how many ways of so many indices lead a company to a goal."""
    check_company(named, company)
    check_goal(named, company, goal)
    check_stock(named, stock)
    check_number(many, 0, MOST_INDICES)
    places = {row: place for place, row in enumerate(ways_led(named, [company], stock))}
    steps = steps_of(named, [company], stock)
    behind = [[places[row_led(row, tables)] for tables in steps] for row in places]
    counts = [1] + [0] * (len(behind) - 1)
    for _ in range(many):
        counts = counts_behind(counts, behind)
    goal_row = row_of(named, [goal])
    return counts[places[goal_row]] if goal_row in places else 0


def counts_behind(counts, behind):
    """Return how many ways lead to each place, from how many with one index less do, and from where these lead."""
    told = [0] * len(counts)
    for place, count in enumerate(counts):
        for other in behind[place]:
            told[other] = told[other] + count
    return told


def way_but_names(named, company, goal, stock):
    """Return the least way to some company that is a goal in some order of the people besides, or None."""
    check_company(named, company)
    check_goal(named, company, goal)
    check_stock(named, stock)
    check_few_besides(named, company, MOST_EXCHANGED)
    ways = ways_led(named, [company], stock)
    goals = {row_of(named, [alike]): True for alike in in_all_orders(named, goal)}
    for row in ways:
        if row in goals:
            return ways[row]
    return None
