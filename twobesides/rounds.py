"""Scripts done again and again: when they come round, and what comes of them."""

from twobesides.checks import check_company, check_script, check_times
from twobesides.cycles import round_of, table_done
from twobesides.parts import company_of_parts, part_numbers, part_people
from twobesides.tables import joined, own_table, people_tables, script_tables


def coming_round(named, script):
    """Return the coming round of a script, for all companies at once."""
    check_script(named, script)
    return round_of(script_tables(named, (script,))[0], own_table(named))


def company_round(named, company, script):
    """Return the coming round of a script for a company."""
    check_company(named, company)
    check_script(named, script)
    return round_of(part_table(named, company, script), part_numbers(named, company))


def part_table(named, company, script):
    """Return the table of a script over all companies with as many people as the parts that tell a company."""
    return people_tables(part_people(named, company[0]), (script,))[0]


def done_times(named, company, script, times):
    """Return what comes of a company by a script done so many times."""
    check_company(named, company)
    check_script(named, script)
    check_times(times)
    table = table_done(part_table(named, company, script), times)
    return company_of_parts(named, company[0], joined(part_numbers(named, company), table))


def table_times(named, script, times):
    """Return the table of a script done so many times."""
    check_script(named, script)
    check_times(times)
    return table_done(script_tables(named, (script,))[0], times)
