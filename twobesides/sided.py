"""Sided companies, in which one can know another without being known."""

from twobesides.checks import check_sided, check_sided_script
from twobesides.sidedbundles import sided_bundle_of, sided_company_in, sided_items_done
from twobesides.sidedforms import is_sided_company, is_sided_script


def is_sided(value):
    """Return whether any value is a sided company."""
    return is_sided_company(value)


def are_sided_deeds(value):
    """Return whether any value is a sided script."""
    return is_sided_script(value)


def sided_done(sided, deeds):
    """Return what comes of a sided company by a sided script."""
    check_sided(sided)
    check_sided_script(deeds)
    return sided_company_in(sided_items_done(sided_bundle_of(sided), deeds), 0)
