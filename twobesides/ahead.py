"""Scripts drawn out: all that they ask is asked ahead of the first deed."""

from twobesides.bundles import items_done, unlike_in
from twobesides.checks import check_script
from twobesides.places import every_bundle, starts_of_views
from twobesides.scripts import deeds_for
from twobesides.ties import all_companies, pairs_of


def ahead_depth(named, script):
    """Return the least depth of a drawn out script of a script."""
    check_script(named, script)
    return least_drawn_out(named, script)[0]


def ahead_script(named, script):
    """Return any drawn out script of a script that has the least depth."""
    check_script(named, script)
    return least_drawn_out(named, script)[1]


def least_drawn_out(named, script):
    """Return the pair of the least depth of a drawn out script of a script, and of such a one."""
    starts = every_bundle(named)
    return drawn_out(starts, rows_right(named, script), starts.full, pairs_of(named))


def rows_right(named, script):
    """Return the dict, for each row of a script, of the integer of the starts for which it does as the script does."""
    views = every_bundle(named + 2)
    behind = items_done(views, script)
    right = {}
    for start in all_companies(named):
        row = tuple(deeds_for(start, script))
        if row not in right:
            wrong = starts_of_views(named, unlike_in(behind, items_done(views, row)))
            right[row] = every_bundle(named).full ^ wrong
    return right


def drawn_out(starts, right, here, left):
    """Return the pair of a depth and a drawn out script that is right for some starts, and asks of pairs that are left.

    Its depth is the least one. A row can be right for starts that have another row: then nothing is asked.
    """
    for row in right:
        if here & right[row] == here:
            return 0, row
    told = []
    for pair in left:
        others = [other for other in left if other != pair]
        know = starts.ties[pair]
        first = drawn_out(starts, right, here & know, others)
        second = drawn_out(starts, right, here & (starts.full ^ know), others)
        told.append((1 + max(first[0], second[0]), (("ask", pair[0], pair[1], first[1], second[1]),)))
    return min(told, key=lambda drawn: drawn[0])
