"""Which companies come to a company by a script."""

from twobesides.checks import check_company, check_few_besides, check_script
from twobesides.kinds import company_of_kinds, views_told
from twobesides.parts import besides_told, part_numbers
from twobesides.tables import people_tables, script_tables
from twobesides.ties import all_companies

MOST_AHEAD = 4


def company_ahead(named, company, script):
    """Return any company that comes to a company by a script, or None."""
    check_company(named, company)
    check_script(named, script)
    check_few_besides(named, company, MOST_AHEAD)
    if company[0] <= named + 2:
        return min(small_ahead(company, script), default=None)
    ties = ties_ahead(named, company, script)
    rows = rows_ahead(named, company[0], ties)
    if len(rows) == 0:
        return None
    own, kinds = rows[0]
    known = [pair for pair in ties if ties_let(named, ties, pair, own, kinds)[0] == 1]
    return company_of_kinds(named, own, kinds, known)


def count_ahead(named, company, script):
    """Return how many companies come to a company by a script."""
    check_company(named, company)
    check_script(named, script)
    check_few_besides(named, company, MOST_AHEAD)
    if company[0] <= named + 2:
        return len(small_ahead(company, script))
    ties = ties_ahead(named, company, script)
    told = 0
    for own, kinds in rows_ahead(named, company[0], ties):
        many = 1
        for pair in ties:
            many = many * len(ties_let(named, ties, pair, own, kinds))
        told = told + many
    return told


def small_ahead(company, script):
    """Return the list of all companies that come to a company with few people."""
    companies = all_companies(company[0])
    table = people_tables(company[0], (script,))[0]
    return [ahead for ahead, number in zip(companies, table) if companies[number] == company]


def ties_ahead(named, company, script):
    """Return a dict: for each pair of people besides what both may be ahead, so that their part comes right.

    This is a dict, too: by the ties between named ones and the kinds of both, a list of what they may
    be to one another, 1 if they know one another, otherwise 0.
    """
    told = views_told(named, all_companies(named + 2))
    table = script_tables(named, (script,))[0]
    ahead = [{} for _ in table]
    for index, number in enumerate(table):
        own, first, second, know = told[index]
        ahead[number].setdefault((own, first, second), []).append(know)
    pairs = besides_told(named, company[0])
    return {pair: ahead[number] for pair, number in zip(pairs, part_numbers(named, company))}


def ties_let(named, ties, pair, own, kinds):
    """Return the list of what a pair may be to one another ahead, for ties between named ones and all kinds."""
    return ties[pair].get((own, kinds[pair[0] - named], kinds[pair[1] - named]), [])


def rows_ahead(named, people, ties):
    """Return the list of all pairs of the ties between named ones, and of all kinds, that can stand ahead."""
    rows = [(start[1], ()) for start in all_companies(named)]
    for person in range(named, people):
        longer = [(own, kinds + (kind,)) for own, kinds in rows for kind in range(1 << named)]
        pairs = [(one, person) for one in range(named, person)]
        rows = [row for row in longer if all([len(ties_let(named, ties, pair, row[0], row[1])) > 0 for pair in pairs])]
    return rows
