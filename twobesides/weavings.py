"""Two scripts, woven into one another step by step."""

from twobesides.bundles import bundle_of, company_done, deed_done, put_behind
from twobesides.checks import check_company, check_script
from twobesides.errors import InvalidWeaving, TooMany
from twobesides.forms import is_between
from twobesides.places import company_numbered, numbers_in
from twobesides.quarrels import first_quarrel
from twobesides.scripts import counted
from twobesides.strands import strand_of
from twobesides.ties import pairs_of, part_for

MOST_WOVEN = 8


def check_woven(named, company, script, other_script):
    """Refuse what is no company, or are no two scripts."""
    check_company(named, company)
    check_script(named, script)
    check_script(named, other_script)


def check_short(script, other_script):
    """Refuse scripts with too many deeds and choices."""
    if max(sum(counted(script)), sum(counted(other_script))) > MOST_WOVEN:
        raise TooMany(MOST_WOVEN)


def is_weaving(named, company, script, other_script, value):
    """Return whether any value is a weaving of two scripts for a company."""
    check_woven(named, company, script, other_script)
    return deeds_woven(named, company, (script, other_script), value) is not None


def woven(named, company, script, other_script, weaving):
    """Return the end of a weaving."""
    check_woven(named, company, script, other_script)
    deeds = deeds_woven(named, company, (script, other_script), weaving)
    if deeds is None:
        raise InvalidWeaving("by these steps not both scripts come to their ends, or go on behind them")
    return company_done(company, deeds)


def deeds_woven(named, company, scripts, value):
    """Return the list of the deeds that are done by a weaving of two scripts, or None for what is no weaving."""
    if not isinstance(value, tuple) or not all([is_between(side, 0, 1) for side in value]):
        return None
    strands = [strand_of(script) for script in scripts]
    at = [len(strand) - 1 for strand in strands]
    # Which deeds are done is told by the named ones alone.
    own = bundle_of([part_for(named, company, ())])
    deeds = []
    for side in value:
        if at[side] == 0:
            return None
        step = strands[side][at[side]]
        at[side], own = step_done(own, step)
        if step[0][0] != "ask":
            deeds.append(step[0])
    return deeds if at == [0, 0] else None


def step_done(bundle, step):
    """Return the pair of the index of the next step, and of what comes of a bundle of companies with like starts."""
    item, first, second = step
    if item[0] != "ask":
        return first, deed_done(bundle, item)
    return (second if bundle.knowing(item[1], item[2]) == 0 else first), bundle


def ends_of(named, company, script, other_script):
    """Return the ascending list of the ends of all weavings of two scripts for a company."""
    check_woven(named, company, script, other_script)
    check_short(script, other_script)
    numbers = end_numbers(named, company, strand_of(script), strand_of(other_script))
    return sorted([company_numbered(company[0], number) for number in numbers])


def end_numbers(named, company, first, second):
    """Return the list of the numbers of all ends of weavings of two strands for a company."""
    met = {}
    put_to(met, named, (len(first) - 1, len(second) - 1), bundle_of([company]))
    for one in range(len(first) - 1, -1, -1):
        for other in range(len(second) - 1, -1, -1):
            for bundle in list(met.get((one, other), {}).values()):
                if one > 0:
                    at, behind = step_done(bundle, first[one])
                    put_to(met, named, (at, other), behind)
                if other > 0:
                    at, behind = step_done(bundle, second[other])
                    put_to(met, named, (one, at), behind)
    ends = [number for bundle in list(met[(0, 0)].values()) for number in numbers_in(bundle)]
    return sorted(set(ends))


def put_to(met, named, place, bundle):
    """Put companies to those met at a place: one bundle is kept there for each start, as choices go by it."""
    there = met.setdefault(place, {})
    own = tuple([bundle.ties[pair] & 1 for pair in pairs_of(named)])
    there[own] = put_behind(there[own], bundle) if own in there else bundle


def never_quarrel(named, script, other_script):
    """Return whether all weavings of two scripts lead each company to one end."""
    return quarrel_of(named, script, other_script) is None


def quarrel_of(named, script, other_script):
    """Return any triple of a company with two besides and of two weavings with unlike ends, or None."""
    check_script(named, script)
    check_script(named, other_script)
    check_short(script, other_script)
    return first_quarrel(named, strand_of(script), strand_of(other_script))
