"""Tables of scripts over all views."""

from twobesides.bundles import bundle_of, company_in, items_done
from twobesides.ties import all_companies


def script_tables(named, scripts):
    """Return the list of the tables of scripts."""
    views = all_companies(named + 2)
    numbers = {view: number for number, view in enumerate(views)}
    ahead = bundle_of(views)
    tables = []
    for script in scripts:
        behind = items_done(ahead, script)
        tables.append(tuple(numbers[company_in(behind, index)] for index in range(len(views))))
    return tables


def own_table(named):
    """Return the table of the script without items."""
    return tuple(range(len(all_companies(named + 2))))


def joined(first, second):
    """Return the table of two scripts, one behind the other, from the tables of both."""
    return tuple(second[number] for number in first)
