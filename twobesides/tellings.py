"""Companies and starts that tell scripts apart."""

from twobesides.bundles import company_done, items_done, unlike_in
from twobesides.checks import check_company, check_named, check_start, check_told_apart
from twobesides.places import company_numbered, every_bundle, number_of, starts_of_views, views_with_start
from twobesides.ties import all_companies, pairs_of, put_together


def parted_by(named, company, scripts):
    """Return the ascending list of the pairs of indices of the scripts that a company parts."""
    check_company(named, company)
    check_told_apart(named, scripts)
    return pairs_parted(company, scripts)


def pairs_parted(company, scripts):
    """Return what parted_by does, of what has been checked."""
    behind = [company_done(company, script) for script in scripts]
    return [(one, other) for one, other in pairs_of(len(scripts)) if behind[one] != behind[other]]


def parted_at(named, start, scripts):
    """Return the ascending list of the pairs of indices of the scripts that a start parts."""
    check_start(named, start)
    check_told_apart(named, scripts)
    starts = starts_parting(named, scripts)
    return [pair for pair in starts if starts[pair] >> number_of(start[1]) & 1 == 1]


def views_parting(named, scripts):
    """Return the dict, for each pair of indices of scripts, of the integer of the views that part both."""
    views = every_bundle(named + 2)
    behind = [items_done(views, script) for script in scripts]
    return {(one, other): unlike_in(behind[one], behind[other]) for one, other in pairs_of(len(scripts))}


def starts_parting(named, scripts):
    """Return the dict, for each pair of indices of scripts, of the integer of the starts that part both."""
    parting = views_parting(named, scripts)
    return {pair: starts_of_views(named, parting[pair]) for pair in parting}


def telling_starts(named, scripts):
    """Return the ascending tuple of the fewest starts that part all scripts which any company parts."""
    check_named(named)
    check_told_apart(named, scripts)
    starts = starts_parting(named, scripts)
    wanted = [starts[pair] for pair in starts if starts[pair] != 0]
    some = [()]
    # One start for each two scripts is enough: in time some tuple does.
    while True:
        for told in some:
            if all([sum_of_numbers(told) & parting != 0 for parting in wanted]):
                return told
        some = [told + (start,) for told in some for start in all_companies(named) if told == () or told[-1] < start]


def sum_of_numbers(starts):
    """Return the integer of the numbers of unlike starts."""
    return sum([1 << number_of(ties) for _, ties in starts])


def telling_company(named, start, scripts):
    """Return any company with a start that parts all scripts which the start parts."""
    check_start(named, start)
    check_told_apart(named, scripts)
    parting = views_parting(named, scripts)
    company = start
    for pair in parting:
        views = parting[pair] & views_with_start(named, number_of(start[1]))
        if views != 0:
            # What comes of the part for the two besides of this view is the part of what comes of all.
            view = company_numbered(named + 2, (views & -views).bit_length() - 1)
            company = put_together(named, company, view)
    return company
