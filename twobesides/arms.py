"""Choices in scripts: which of their arms are met, and which choices are idle."""

from twobesides.bundles import bundle_of, items_done
from twobesides.checks import check_script
from twobesides.tables import script_tables
from twobesides.ties import all_companies

# Where a choice has its first script, and its second one; arms are told by these, too.
FIRST = 3
SECOND = 4


def arms_met(named, script):
    """Return the ascending tuple of all arms that are met."""
    check_script(named, script)
    starts = bundle_of(all_companies(named))
    return tuple(sorted(arms_in(starts, script, (), starts.full)))


def arms_in(bundle, items, place, here):
    """Return the list of the arms, in items at a place, that are met by those companies of a bundle that come here."""
    arms = []
    for index, item in enumerate(items):
        if item[0] == "ask":
            know = bundle.knowing(item[1], item[2])
            for arm, some in ((FIRST, here & know), (SECOND, here & (bundle.full ^ know))):
                if some != 0:
                    met = place + (index, arm)
                    arms = arms + [met] + arms_in(bundle, item[arm], met, some)
        bundle = items_done(bundle, (item,))
    return arms


def idle_choices(named, script):
    """Return the ascending tuple of the places of all idle choices."""
    check_script(named, script)
    places = choices_in(script, ())
    firsts = script_tables(named, [with_arm(script, place, FIRST) for place in places])
    seconds = script_tables(named, [with_arm(script, place, SECOND) for place in places])
    table = script_tables(named, (script,))[0]
    idle = [place for place, first, second in zip(places, firsts, seconds) if first == table and second == table]
    return tuple(sorted(idle))


def choices_in(items, place):
    """Return the list of the places of all choices in items, which stand at a place."""
    places = []
    for index, item in enumerate(items):
        if item[0] == "ask":
            places.append(place + (index,))
            for arm in (FIRST, SECOND):
                places = places + choices_in(item[arm], place + (index, arm))
    return places


def with_arm(items, place, arm):
    """Return items with the items of one script of a choice in the place of the choice."""
    index = place[0]
    choice = items[index]
    if len(place) == 1:
        return items[:index] + choice[arm] + items[index + 1:]
    inner = with_arm(choice[place[1]], place[2:], arm)
    changed = choice[:place[1]] + (inner,) + choice[place[1] + 1:]
    return items[:index] + (changed,) + items[index + 1:]
