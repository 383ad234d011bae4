"""Which scripts leave as many ties, in all or of one named one, whatever the company."""

from twobesides.bundles import items_done
from twobesides.checks import check_one, check_script
from twobesides.places import every_bundle, first_company


def as_many_ties(named, script, other_script):
    """Return whether two scripts leave as many ties in all companies."""
    return ties_parting(named, script, other_script) is None


def ties_parting(named, script, other_script):
    """Return the first company of which two scripts leave unlike numbers of ties, or None."""
    check_script(named, script)
    check_script(named, other_script)
    # As many ties are left with two besides, and fewer: then it is so for each two of more.
    return first_parting(named, script, other_script, None, 2)


def as_many_known(named, script, other_script, one):
    """Return whether a named one is known to as many behind two scripts, in all companies."""
    return known_parting(named, script, other_script, one) is None


def known_parting(named, script, other_script, one):
    """Return the first company in which a named one is not known to as many behind two scripts, or None."""
    check_script(named, script)
    check_script(named, other_script)
    check_one(named, one)
    return first_parting(named, script, other_script, one, 1)


def first_parting(named, script, other_script, one, besides):
    """Return the first company, with at most so many besides, of which scripts leave unlike numbers of ties, or None.

    If there is one, only the ties of this named one are counted.
    """
    for people in range(named, named + besides + 1):
        ahead = every_bundle(people)
        pairs = [pair for pair in ahead.ties if one is None or one in pair]
        first = items_done(ahead, script)
        second = items_done(ahead, other_script)
        counts = counted([first.ties[pair] for pair in pairs])
        others = counted([second.ties[pair] for pair in pairs])
        parted = 0
        for count, other in zip(counts, others):
            parted = parted | count ^ other
        if parted != 0:
            return first_company(people, parted)
    return None


def counted(rows):
    """Return the list of integers that tell, as bits of numbers, in how many of the rows each bit is 1."""
    counts = [0] * len(rows).bit_length()
    for row in rows:
        for index in range(len(counts)):
            counts[index], row = counts[index] ^ row, counts[index] & row
    return counts
