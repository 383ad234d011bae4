"""Which values are entries and day-books, asked of any value."""

from twobesides.forms import MOST_NAMED, MOST_PEOPLE, are_people_of, is_between, is_company_of, is_deed_of, is_tuple_of

MOST_ENTRIES = 30


def people_behind(named, people, value):
    """Return how many people there are behind an entry, if there were so many; -1 if the value is no entry then."""
    if not is_tuple_of(value, 2):
        return -1
    word, told = value
    if word == "deed" and is_deed_of(named, told):
        return people
    if word == "come" and people < MOST_PEOPLE and are_people_of(people, told):
        return people + 1
    if word == "leave" and is_between(told, named, people - 1):
        return people - 1
    return -1


def are_entries(named, people, entries):
    """Return whether all values of a tuple are entries, done one behind the other, if there were so many people."""
    for entry in entries:
        people = people_behind(named, people, entry)
        if people < 0:
            return False
    return True


def is_day_book(value):
    """Return whether any value is a day-book."""
    if not is_tuple_of(value, 3):
        return False
    named, company, entries = value
    if not is_between(named, 1, MOST_NAMED) or not is_company_of(named, company):
        return False
    return isinstance(entries, tuple) and len(entries) <= MOST_ENTRIES and are_entries(named, company[0], entries)
