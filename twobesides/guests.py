"""Guests of day-books: who was there, since when, and what would stand without them."""

from twobesides.checks import check_book, check_other, check_person
from twobesides.entries import companies_of_book
from twobesides.errors import InvalidGuest
from twobesides.forms import is_between
from twobesides.ties import pair_of, part_for


def guests_of(book):
    """Return the list of the triples that tell the guests of a day-book, in order."""
    check_book(book)
    return guest_triples(book)


def guest_triples(book):
    """Return what guests_of does, of what has been checked."""
    named, company, entries = book
    guests = [(-1, number, None) for number in range(named, company[0])]
    there = list(range(len(guests)))
    for index, (word, told) in enumerate(entries):
        if word == "come":
            there.append(len(guests))
            guests.append((index, named + len(there) - 1, None))
        if word == "leave":
            guest = there.pop(told - named)
            guests[guest] = guests[guest][:2] + (index,)
    return guests


def trail_of(book, person, other):
    """Return the trail of two people who are there behind all entries."""
    check_book(book)
    companies = companies_of_book(book)
    check_person(companies[-1], person)
    check_other(companies[-1], person, other)
    trail = ()
    for index, (word, told) in reversed(list(enumerate(book[2]))):
        know = pair_of(person, other) in companies[index + 1][1]
        if word == "come" and companies[index][0] in (person, other):
            return (index,) + trail
        if word == "leave":
            person, other = [number if number < told else number + 1 for number in (person, other)]
        if (pair_of(person, other) in companies[index][1]) != know:
            trail = (index,) + trail
    return trail


def without_guest(book, guest):
    """Return the day-book without a guest."""
    check_book(book)
    guests = guest_triples(book)
    if not is_between(guest, 0, len(guests) - 1):
        raise InvalidGuest("no guest has this number")
    named, company, entries = book
    came, number, left = guests[guest]
    place = None
    if came < 0:
        place = number
        stay = [person for person in range(named, company[0]) if person != number]
        company = part_for(named, company, tuple(stay))
    told = []
    for index, entry in enumerate(entries):
        if index == came:
            place = number
        elif index == left:
            place = None
        elif place is None:
            told.append(entry)
        else:
            told.append(entry_without(entry, place))
            if entry[0] == "leave" and entry[1] < place:
                place = place - 1
    return named, company, tuple(told)


def entry_without(entry, person):
    """Return an entry, done among the others, without a person who is there."""
    word, told = entry
    if word == "come":
        return word, tuple([lowered(friend, person) for friend in told if friend != person])
    if word == "leave":
        return word, lowered(told, person)
    return entry


def lowered(number, person):
    """Return the number that one of the others has without a person."""
    return number - 1 if number > person else number
