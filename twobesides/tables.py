"""Tables of scripts: what comes of each of many companies, by their numbers."""

from twobesides.bundles import bundle_of, company_in, items_done
from twobesides.ties import all_companies


def script_tables(named, scripts):
    """Return the list of the tables of scripts, over all views."""
    return people_tables(named + 2, scripts)


def people_tables(people, scripts):
    """Return the list of the tables of scripts over all companies of so many people."""
    companies = all_companies(people)
    numbers = {company: number for number, company in enumerate(companies)}
    ahead = bundle_of(companies)
    tables = []
    for script in scripts:
        behind = items_done(ahead, script)
        tables.append(tuple(numbers[company_in(behind, index)] for index in range(len(companies))))
    return tables


def own_table(named):
    """Return the table of the script without items."""
    return tuple(range(len(all_companies(named + 2))))


def joined(first, second):
    """Return the table of two scripts, one behind the other, from the tables of both."""
    return tuple(second[number] for number in first)
