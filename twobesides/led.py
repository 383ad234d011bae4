"""Companies that ways of a stock lead others to, told as rows of the numbers of their parts."""

from twobesides.errors import TooMany
from twobesides.parts import besides_told, part_numbers, part_people
from twobesides.tables import people_tables
from twobesides.ways import least_ways

MOST_LED = 1000


def row_of(named, companies):
    """Return the row of companies: the numbers of all their parts, those of one company behind the other's."""
    row = ()
    for company in companies:
        row = row + part_numbers(named, company)
    return row


def steps_of(named, companies, stock):
    """Return the list, for each script of a stock, of the list of its tables for all numbers in a row of companies."""
    sizes = [part_people(named, company[0]) for company in companies for _ in besides_told(named, company[0])]
    tables = {people: people_tables(people, stock) for people in sorted(set(sizes))}
    return [[tables[people][index] for people in sizes] for index in range(len(stock))]


def row_led(row, tables):
    """Return the row to which tables, one for each number, lead a row."""
    return tuple([table[number] for table, number in zip(tables, row)])


def ways_led(named, companies, stock):
    """Return the dict of the least way to each row that comes of that of companies, lesser ways first."""
    ways = least_ways(row_of(named, companies), steps_of(named, companies, stock), row_led, MOST_LED)
    if len(ways) > MOST_LED:
        raise TooMany(MOST_LED)
    return ways


def count_ways_led(named, companies, goals, stock, many):
    """Return how many ways of so many indices lead companies to goals, with as many people each, all at once."""
    places = {row: place for place, row in enumerate(ways_led(named, companies, stock))}
    steps = steps_of(named, companies, stock)
    behind = [[places[row_led(row, tables)] for tables in steps] for row in places]
    counts = [1] + [0] * (len(behind) - 1)
    for _ in range(many):
        counts = counts_behind(counts, behind)
    goal = row_of(named, goals)
    return counts[places[goal]] if goal in places else 0


def counts_behind(counts, behind):
    """Return how many ways lead to each place, from how many with one index less do, and from where these lead."""
    told = [0] * len(counts)
    for place, count in enumerate(counts):
        for other in behind[place]:
            told[other] = told[other] + count
    return told
