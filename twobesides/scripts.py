"""Scripts of deeds and choices."""

from twobesides.bundles import bundle_of, deed_done
from twobesides.checks import check_company, check_named, check_script
from twobesides.forms import is_script_of


def is_script(named, value):
    """Return whether any value is a script."""
    check_named(named)
    return is_script_of(named, value)


def count_deeds(named, script):
    """Return how many deeds, and how many choices, there are in a script in all."""
    check_script(named, script)
    return counted(script)


def counted(items):
    """Return how many deeds and choices there are in items, and in the scripts of their choices."""
    deeds = 0
    choices = 0
    for item in items:
        if item[0] == "ask":
            first, second = counted(item[3]), counted(item[4])
            deeds = deeds + first[0] + second[0]
            choices = choices + first[1] + second[1] + 1
        else:
            deeds = deeds + 1
    return deeds, choices


def depth_of(named, script):
    """Return the depth of a script."""
    check_script(named, script)
    return deepest(script)


def deepest(items):
    """Return the depth of deeds and choices."""
    return max([0] + [1 + max(deepest(item[3]), deepest(item[4])) for item in items if item[0] == "ask"])


def deeds_done(named, company, script):
    """Return the list of the deeds that are done where a company stands ahead of a script."""
    check_company(named, company)
    check_script(named, script)
    return deeds_for(company, script)


def deeds_for(company, items):
    """Return the list of the deeds that are done where a company stands ahead of deeds and choices."""
    deeds = []
    follow(bundle_of([company]), items, deeds)
    return deeds


def follow(bundle, items, deeds):
    """Return what comes of a bundle of one company by items, and list the deeds that are done."""
    for item in items:
        if item[0] == "ask":
            know = bundle.knowing(item[1], item[2]) == 1
            bundle = follow(bundle, item[3] if know else item[4], deeds)
        else:
            deeds.append(item)
            bundle = deed_done(bundle, item)
    return bundle
