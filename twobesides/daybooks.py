"""Day-books: deeds, and people who come and leave, one behind the other."""

from twobesides.bookforms import are_entries, is_day_book
from twobesides.checks import check_book
from twobesides.entries import bundles_of_book, companies_of_book, entry_done


def is_book(value):
    """Return whether any value is a day-book."""
    return is_day_book(value)


def book_companies(book):
    """Return the list of the companies of a day-book: the one at first, and those behind each entry."""
    check_book(book)
    return companies_of_book(book)


def exchanged_entries(book):
    """Return the ascending list of the indices of all entries that can be exchanged with the next one."""
    check_book(book)
    named, _, entries = book
    bundles = bundles_of_book(book)
    told = []
    for index in range(len(entries) - 1):
        exchanged = (entries[index + 1], entries[index]) + entries[index + 2:]
        if are_entries(named, bundles[index].people, exchanged) and is_same_end(bundles, index, exchanged):
            told.append(index)
    return told


def is_same_end(bundles, index, entries):
    """Return whether entries lead from the company at an index to the last one; each is told by a bundle of one."""
    bundle = bundles[index]
    for at, entry in enumerate(entries):
        bundle = entry_done(bundle, entry)
        # Both entries that were exchanged must have been done: from then on all entries are the same.
        if at > 0 and bundle.ties == bundles[index + at + 1].ties:
            return True
    return False
