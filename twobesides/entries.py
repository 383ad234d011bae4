"""What comes of companies by entries: by deeds, and by people who come and leave."""

from twobesides.bundles import Bundle, bundle_of, company_in, deed_done
from twobesides.ties import pairs_of


def entry_done(bundle, entry):
    """Return what comes of a bundle by an entry."""
    word, told = entry
    if word == "deed":
        return deed_done(bundle, told)
    return come_done(bundle, told) if word == "come" else leave_done(bundle, told)


def come_done(bundle, friends):
    """Return the bundle with one person more, whom just the friends know."""
    come = bundle.people
    ties = {}
    for one, other in pairs_of(come + 1):
        if other < come:
            ties[(one, other)] = bundle.ties[(one, other)]
        else:
            ties[(one, other)] = bundle.full if one in friends else 0
    return Bundle(come + 1, bundle.full, ties)


def leave_done(bundle, person):
    """Return the bundle without a person: all with greater numbers have one less."""
    stay = [other for other in range(bundle.people) if other != person]
    ties = {(one, other): bundle.ties[(stay[one], stay[other])] for one, other in pairs_of(len(stay))}
    return Bundle(len(stay), bundle.full, ties)


def bundles_of_book(book):
    """Return the list of the bundles of the one company at first, and of that behind each entry."""
    _, company, entries = book
    bundles = [bundle_of([company])]
    for entry in entries:
        bundles.append(entry_done(bundles[-1], entry))
    return bundles


def companies_of_book(book):
    """Return the list of the companies of a day-book."""
    return [company_in(bundle, 0) for bundle in bundles_of_book(book)]


def company_behind(company, entry):
    """Return what comes of a company by an entry."""
    return company_in(entry_done(bundle_of([company]), entry), 0)
