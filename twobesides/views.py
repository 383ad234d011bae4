"""Views: the companies with two besides, and what scripts make of them."""

from twobesides.checks import check_company, check_named, check_script
from twobesides.errors import NotTwo
from twobesides.tables import script_tables
from twobesides.ties import all_companies


def views_of(named):
    """Return the list of all views, in order."""
    check_named(named)
    return all_companies(named + 2)


def view_number(named, company):
    """Return the number of a view."""
    check_company(named, company)
    if company[0] != named + 2:
        raise NotTwo("a view has two people besides")
    return all_companies(named + 2).index(company)


def table_of(named, script):
    """Return the table of a script."""
    check_script(named, script)
    return script_tables(named, (script,))[0]
