"""Sided deeds, done to many sided companies at once."""

from twobesides.places import bits_at, numbers_across


class SidedBundle:
    """Sided companies with as many people, told side by side.

    In knows there is an integer for each pair of unlike people, in Python's order of the pairs; its
    bit k is 1 if the one knows the other in the company with the index k. In moods there is likewise
    one for each person, for whether this one is glad. In full all these bits are 1.
    """

    def __init__(self, people, full, knows, moods):
        self.people = people
        self.full = full
        self.knows = knows
        self.moods = moods


def sided_pairs(people):
    """Return the list of all pairs of unlike ones of so many people, in Python's order."""
    return [(one, other) for one in range(people) for other in range(people) if one != other]


def sided_bundle_of(sided):
    """Return the bundle of one sided company."""
    people, knows, moods = sided
    told = {pair: 1 if pair in knows else 0 for pair in sided_pairs(people)}
    return SidedBundle(people, 1, told, [1 if person in moods else 0 for person in range(people)])


def every_sided(people):
    """Return the bundle of all sided companies of so many people."""
    pairs = sided_pairs(people)
    places = len(pairs) + people
    knows = {pair: bits_at(place, places) for place, pair in enumerate(pairs)}
    moods = [bits_at(len(pairs) + person, places) for person in range(people)]
    return SidedBundle(people, (1 << (1 << places)) - 1, knows, moods)


def rows_of(bundle):
    """Return the list of all integers that tell the companies of a bundle."""
    return list(bundle.knows.values()) + bundle.moods


def sided_numbers(bundle):
    """Return the list of the numbers of the companies of a bundle: their indices among all with as many people."""
    return numbers_across(rows_of(bundle), bundle.full.bit_length())


def sided_company_in(bundle, index):
    """Return the sided company of a bundle that has an index."""
    knows = tuple([pair for pair in bundle.knows if bundle.knows[pair] >> index & 1 == 1])
    moods = tuple([person for person, glad in enumerate(bundle.moods) if glad >> index & 1 == 1])
    return bundle.people, knows, moods


def sided_answered(full, answers, asked):
    """Return the integer of the companies in which questions, told by one integer each, are answered by 1."""
    if asked == []:
        return full if answers[0] == 1 else 0
    half = len(answers) // 2
    yes = sided_answered(full, answers[half:], asked[1:])
    no = sided_answered(full, answers[:half], asked[1:])
    return asked[0] & yes | (full ^ asked[0]) & no


def sided_deed_done(bundle, deed):
    """Return what comes of a bundle by a sided deed."""
    word, answers = deed
    knows = {pair: bundle.knows[pair] for pair in bundle.knows}
    moods = list(bundle.moods)
    if word == "pairs":
        for one, other in [pair for pair in bundle.knows if 0 not in pair]:
            asked = [bundle.knows[pair] for pair in ((one, other), (other, one), (0, one), (0, other))]
            knows[(one, other)] = sided_answered(bundle.full, answers, asked)
        return SidedBundle(bundle.people, bundle.full, knows, moods)
    for person in range(1, bundle.people):
        asked = [bundle.knows[(0, person)], bundle.knows[(person, 0)], bundle.moods[person]]
        told = sided_answered(bundle.full, answers, asked)
        if word == "meets":
            knows[(0, person)] = told
        if word == "liked":
            knows[(person, 0)] = told
        if word == "moods":
            moods[person] = told
    return SidedBundle(bundle.people, bundle.full, knows, moods)


def sided_items_done(bundle, deeds):
    """Return what comes of a bundle by sided deeds, one behind the other."""
    for deed in deeds:
        bundle = sided_deed_done(bundle, deed)
    return bundle
