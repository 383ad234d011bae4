"""Where, among the items of a script, another one can be done with the same end."""

from twobesides.bundles import items_done, unlike_in
from twobesides.checks import check_script
from twobesides.places import every_bundle


def do_exchange(named, script, other_script):
    """Return whether two scripts, done one behind the other, do the same to all companies in both orders."""
    check_script(named, script)
    check_script(named, other_script)
    views = every_bundle(named + 2)
    one = items_done(items_done(views, script), other_script)
    other = items_done(items_done(views, other_script), script)
    return unlike_in(one, other) == 0


def stops_alike(named, script, other_script):
    """Return the list of the tuples of all stops in a script at which another one can be done with the same end."""
    check_script(named, script)
    check_script(named, other_script)
    ahead = every_bundle(named + 2)
    classes = {}
    for index in range(len(script) + 1):
        behind = items_done(items_done(ahead, other_script), script[index:])
        told = tuple(list(behind.ties.values()))
        classes[told] = classes.get(told, ()) + (index,)
        ahead = items_done(ahead, script[index:index + 1])
    return list(classes.values())
