"""What sided scripts do to all sided companies: it is seen at those of three people."""

from twobesides.checks import check_sided_script
from twobesides.cycles import round_of
from twobesides.sidedbundles import every_sided, rows_of, sided_company_in, sided_items_done, sided_numbers

ENOUGH = 3


def sided_alike(deeds, others):
    """Return whether two sided scripts do the same to all sided companies."""
    check_sided_script(deeds)
    check_sided_script(others)
    return sided_parted(every_sided(ENOUGH), deeds, others) == 0


def sided_parted(ahead, deeds, others):
    """Return the integer of the indices of the companies of a bundle to which two scripts do not the same."""
    parted = 0
    for row, other in zip(rows_of(sided_items_done(ahead, deeds)), rows_of(sided_items_done(ahead, others))):
        parted = parted | row ^ other
    return parted


def sided_parting(deeds, others):
    """Return the first sided company to which two sided scripts do not the same, or None."""
    check_sided_script(deeds)
    check_sided_script(others)
    for people in range(1, ENOUGH + 1):
        ahead = every_sided(people)
        parted = sided_parted(ahead, deeds, others)
        if parted != 0:
            indices = [index for index in range(parted.bit_length()) if parted >> index & 1 == 1]
            return min([sided_company_in(ahead, index) for index in indices], key=order_of_sided)
    return None


def order_of_sided(sided):
    """Return what sided companies of as many people are ordered by: fewer pairs who know come first."""
    return len(sided[1]), sided


def sided_round(deeds):
    """Return the pair of the beginning and the round of a sided script."""
    check_sided_script(deeds)
    table = sided_numbers(sided_items_done(every_sided(ENOUGH), deeds))
    return round_of(table, list(range(len(table))))


def keeps_mutual(deeds):
    """Return whether whoever is known knows back behind a sided script, wherever it is so ahead."""
    check_sided_script(deeds)
    ahead = every_sided(ENOUGH)
    mutual = ahead.full ^ one_sided(ahead)
    return mutual & one_sided(sided_items_done(ahead, deeds)) == 0


def one_sided(bundle):
    """Return the integer of the indices of the companies of a bundle in which somebody is known and knows not back."""
    told = 0
    for one, other in bundle.knows:
        told = told | bundle.knows[(one, other)] ^ bundle.knows[(other, one)]
    return told
