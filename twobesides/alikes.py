"""Scripts that do the same to all companies, and companies that tell scripts apart."""

from twobesides.bundles import bundle_of, items_done, unlike_in
from twobesides.checks import check_script, check_scripts
from twobesides.tables import script_tables
from twobesides.ties import all_companies


def scripts_alike(named, script, beside):
    """Return whether two scripts are alike."""
    check_script(named, script)
    check_script(named, beside)
    first, second = script_tables(named, (script, beside))
    return first == second


def parting_company(named, script, beside):
    """Return the parting company of two scripts, or None."""
    check_script(named, script)
    check_script(named, beside)
    for people in range(named, named + 3):
        companies = sorted(all_companies(people), key=order_of_parting)
        index = first_parted(companies, script, beside)
        if index is not None:
            return companies[index]
    return None


def order_of_parting(company):
    """Return what companies of as many people are ordered by: fewer ties come first."""
    return len(company[1]), company[1]


def first_parted(companies, script, beside):
    """Return the index of the first company of which unlike ones come by two scripts, or None."""
    ahead = bundle_of(companies)
    parted = unlike_in(items_done(ahead, script), items_done(ahead, beside))
    if parted == 0:
        return None
    return (parted & -parted).bit_length() - 1


def alike_classes(named, scripts):
    """Return the list of the tuples of the indices of all scripts of a lot that are alike to one of it."""
    check_scripts(named, scripts)
    classes = {}
    for index, table in enumerate(script_tables(named, scripts)):
        classes[table] = classes.get(table, ()) + (index,)
    return list(classes.values())
