"""Which views two strands lead to unlike ends, woven in one way and in another one."""

from twobesides.bundles import deed_done
from twobesides.places import company_numbered, every_bundle, numbers_in

# In the place of the number of an end: there are several.
MANY = -1


def first_quarrel(named, first, second):
    """Return any triple of a view and of two weavings of two strands with unlike ends, or None."""
    views = every_bundle(named + 2)
    many = views.full.bit_length()
    strands = (leads_of(views, first), leads_of(views, second))
    ends = all_ends(strands, many)
    last = ends[-1][-1]
    if MANY not in last:
        return None
    number = last.index(MANY)
    one, other = ways_apart(strands, ends, number, many)
    return company_numbered(named + 2, number), one, other


def leads_of(views, strand):
    """Return the list, for each step of a strand, of triples (lead, index, index).

    The lead tells, for each number of a view, the number of what comes of it by the step; it is
    greater by the number of all views where the script goes on at the second index.
    """
    return [(lead_of(views, step[0]), step[1], step[2]) for step in strand]


def lead_of(views, item):
    """Return the lead of a deed, of a choice, or of no item."""
    if item == ():
        return []
    if item[0] != "ask":
        return numbers_in(deed_done(views, item))
    many = views.full.bit_length()
    know = views.knowing(item[1], item[2])
    return [number if know >> number & 1 == 1 else number + many for number in range(many)]


def all_ends(strands, many):
    """Return the list of lists, by the indices in both strands, of the end of each view by weavings from there on."""
    ends = []
    for one, step in enumerate(strands[0]):
        ends.append([])
        for other, step_beside in enumerate(strands[1]):
            told = []
            if one > 0:
                told.append(ends_led(step, ends[step[1]][other], ends[step[2]][other]))
            if other > 0:
                told.append(ends_led(step_beside, ends[one][step_beside[1]], ends[one][step_beside[2]]))
            ends[one].append(agreed(told[0], told[-1]) if told != [] else list(range(many)))
    return ends


def ends_led(step, first_ends, second_ends):
    """Return the list of the end of each view, from the ends of those that come by a step."""
    both = first_ends + second_ends
    return [both[number] for number in step[0]]


def agreed(ends, others):
    """Return the list of the ends that both lists tell, and of MANY where they do not agree."""
    if ends == others:
        return ends
    return [end if end == other else MANY for end, other in zip(ends, others)]


def ways_apart(strands, ends, number, many):
    """Return two weavings with unlike ends, for a view that has several."""
    place = (len(strands[0]) - 1, len(strands[1]) - 1)
    way = ()
    while True:
        moved = [moved_on(strands, place, number, side, many) for side in (0, 1)]
        several = [side for side in (0, 1) if end_of(ends, moved[side]) == MANY]
        if several == []:
            # Both go on to one end each: these must be unlike, or there were one end from here on.
            one, other = [way + (side,) + straight_on(strands, moved[side], many) for side in (0, 1)]
            return one, other
        way = way + (several[0],)
        place, number = moved[several[0]]


def end_of(ends, moved):
    """Return the end, or MANY, from a place and the number of a view on."""
    (one, other), number = moved
    return ends[one][other][number]


def moved_on(strands, place, number, side, many):
    """Return the pair of the place and of the number of the view behind a step of one of both strands."""
    lead, first, second = strands[side][place[side]]
    index = first if lead[number] < many else second
    behind = (index, place[1]) if side == 0 else (place[0], index)
    return behind, lead[number] % many


def straight_on(strands, moved, many):
    """Return any weaving of what is left, from a place and the number of a view on."""
    place, number = moved
    way = ()
    while place != (0, 0):
        side = 0 if place[0] > 0 else 1
        place, number = moved_on(strands, place, number, side, many)
        way = way + (side,)
    return way
