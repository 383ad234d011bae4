"""Starts: companies of the named ones alone, which tell the deeds that are done."""

from twobesides.checks import check_company, check_named, check_script
from twobesides.scripts import deeds_for
from twobesides.ties import all_companies, part_for


def starts_of(named):
    """Return the list of all starts, in order."""
    check_named(named)
    return all_companies(named)


def start_number(named, company):
    """Return the number of the start of a company."""
    check_company(named, company)
    return all_companies(named).index(part_for(named, company, ()))


def drawn_rows(named, script):
    """Return the tuple of the rows of a script for all starts, in order."""
    check_script(named, script)
    return tuple(tuple(deeds_for(start, script)) for start in all_companies(named))
