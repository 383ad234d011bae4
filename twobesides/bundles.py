"""Deeds and scripts, done to many companies at once."""

from twobesides.ties import pair_of, pairs_of


class Bundle:
    """Companies with as many people, told side by side.

    For each pair of people there is an integer in ties, in Python's order of the pairs; its bit k
    is 1 if both know one another in the company with the index k. In full all these bits are 1.
    """

    def __init__(self, people, full, ties):
        self.people = people
        self.full = full
        self.ties = ties

    def knowing(self, one, other):
        """Return the integer of two people, in any order."""
        return self.ties[pair_of(one, other)]

    def with_ties(self, told):
        """Return the bundle in which some ties, by their pairs, are told anew."""
        ties = {pair: told.get(pair, self.ties[pair]) for pair in self.ties}
        return Bundle(self.people, self.full, ties)


def bundle_of(companies):
    """Return the bundle of one company, or of more with as many people."""
    people = companies[0][0]
    ties = {pair: 0 for pair in pairs_of(people)}
    for index, company in enumerate(companies):
        for tie in company[1]:
            ties[tie] = ties[tie] | 1 << index
    return Bundle(people, (1 << len(companies)) - 1, ties)


def company_in(bundle, index):
    """Return the company of a bundle that has an index."""
    return bundle.people, tuple(pair for pair in bundle.ties if bundle.ties[pair] >> index & 1)


def unlike_in(first, second):
    """Return the integer of the indices at which two bundles of as many people have unlike companies."""
    unlike = 0
    for pair in first.ties:
        unlike = unlike | first.ties[pair] ^ second.ties[pair]
    return unlike


def put_behind(first, second):
    """Return the bundle of the companies of a bundle, and behind them of those of another one with as many people."""
    shift = first.full.bit_length()
    ties = {pair: first.ties[pair] | second.ties[pair] << shift for pair in first.ties}
    return Bundle(first.people, first.full | second.full << shift, ties)


def answered(answers, asked, also):
    """Return the integer of the companies in which a question of two parts is answered by 1.

    Each part is a tuple of integers: of the companies in which it stands for 0, for 1 and so on.
    """
    cases = [first & second for first in asked for second in also]
    told = 0
    for case, answer in zip(cases, answers):
        if answer == 1:
            told = told | case
    return told


def pairs_done(bundle, doer, answers):
    """Return what comes of a bundle by a deed "pairs"."""
    told = {}
    for one, other in bundle.ties:
        if doer != one and doer != other:
            know = bundle.knowing(one, other)
            first = bundle.knowing(doer, one)
            second = bundle.knowing(doer, other)
            many = (bundle.full ^ (first | second), first ^ second, first & second)
            told[(one, other)] = answered(answers, (bundle.full ^ know, know), many)
    return bundle.with_ties(told)


def takes_done(bundle, one, other, answers):
    """Return what comes of a bundle by a deed "takes"."""
    told = {}
    for person in range(bundle.people):
        if person != one and person != other:
            own = bundle.knowing(one, person)
            theirs = bundle.knowing(other, person)
            asked = (bundle.full ^ own, own)
            told[pair_of(one, person)] = answered(answers, asked, (bundle.full ^ theirs, theirs))
    return bundle.with_ties(told)


def tie_done(bundle, one, other, word):
    """Return what comes of a bundle by a deed "tie"."""
    know = bundle.full
    if word == "part":
        know = 0
    if word == "turn":
        know = bundle.full ^ bundle.knowing(one, other)
    return bundle.with_ties({pair_of(one, other): know})


def deed_done(bundle, deed):
    """Return what comes of a bundle by a deed."""
    if deed[0] == "pairs":
        return pairs_done(bundle, deed[1], deed[2])
    if deed[0] == "takes":
        return takes_done(bundle, deed[1], deed[2], deed[3])
    return tie_done(bundle, deed[1], deed[2], deed[3])


def choice_done(bundle, choice):
    """Return what comes of a bundle by a choice."""
    know = bundle.knowing(choice[1], choice[2])
    first = items_done(bundle, choice[3])
    second = items_done(bundle, choice[4])
    ties = {pair: first.ties[pair] & know | second.ties[pair] & (bundle.full ^ know) for pair in bundle.ties}
    return bundle.with_ties(ties)


def items_done(bundle, items):
    """Return what comes of a bundle by deeds and choices, one behind the other."""
    for item in items:
        if item[0] == "ask":
            bundle = choice_done(bundle, item)
        else:
            bundle = deed_done(bundle, item)
    return bundle


def company_done(company, items):
    """Return what comes of one company by deeds and choices."""
    return company_in(items_done(bundle_of([company]), items), 0)
