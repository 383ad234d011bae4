"""Points 39 to 41 and 82: guests of day-books, trails of two people, and day-books without a guest."""

import unittest

from tests.helpers import ANYTHING, Picker, pick_book, refuse, slow_book, slow_know, wrong_books
from twobesides.daybooks import is_book
from twobesides.errors import InvalidBook, InvalidGuest, InvalidPerson
from twobesides.guests import guests_of, trail_of, without_guest

FLIP, FORGET = ("deed", ("pairs", 0, (1, 1, 1, 0, 0, 0))), ("deed", ("pairs", 0, (0, 0, 0, 0, 0, 0)))
MEET = ("deed", ("pairs", 0, (1, 1, 1, 1, 1, 1)))


def picked_books(seed, many, most=14):
    picker = Picker(seed)
    for named in (1, 2, 3):
        for _ in range(many):
            yield pick_book(picker, named, picker.below(most + 1), min(9, named + picker.below(5)))


def slow_people(book):
    """For each company of a day-book who is there: names of people in the order of their numbers; named ones below 0."""
    named, (people, _), entries = book
    there = [number - named for number in range(people)]
    rows, many = [list(there)], people - named
    for word, told in entries:
        if word == "come":
            there.append(many)
            many += 1
        if word == "leave":
            there.pop(told)
        rows.append(list(there))
    return rows


def slow_guests(book):
    rows = slow_people(book)
    told = []
    for guest in range(max(map(max, rows)) + 1):
        found = [index for index, there in enumerate(rows) if guest in there]
        number = rows[found[0]].index(guest)
        told.append((found[0] - 1, number, None if found[-1] == len(rows) - 1 else found[-1]))
    return told


def slow_trail(book, person, other):
    rows, companies = slow_people(book), slow_book(book)
    names = (rows[-1][person], rows[-1][other])
    both = [index for index, there in enumerate(rows) if names[0] in there and names[1] in there]
    know = [slow_know(companies[index], *[rows[index].index(name) for name in names]) for index in both]
    trail = [both[0] - 1] if both[0] > 0 else []
    return tuple(trail + [index - 1 for index, one, two in zip(both[1:], know, know[1:]) if one != two])


def slow_without(book, guest):
    """The day-book without a guest: people are told by names, and by numbers among the others."""
    named, (people, ties), entries = book
    rows = slow_people(book)
    others = [[name for name in there if name != guest] for there in rows]

    def number(index, old):
        return others[index].index(rows[index][old])

    first = (len(others[0]), tuple(tuple(number(0, person) for person in tie) for tie in ties if guest not in [rows[0][person] for person in tie]))
    told = []
    for index, (word, what) in enumerate(entries):
        if word == "deed":
            told.append((word, what))
        elif word == "come" and rows[index + 1][-1] != guest:
            told.append((word, tuple(number(index, friend) for friend in what if rows[index][friend] != guest)))
        elif word == "leave" and rows[index][what] != guest:
            told.append((word, number(index, what)))
    return named, first, tuple(told)


class Guests(unittest.TestCase):
    def test_picked(self):
        kinds = set()
        for book in picked_books(460, 80, 20):
            guests = guests_of(book)
            self.assertEqual(guests, slow_guests(book))
            kinds.update((came < 0, left is None) for came, _, left in guests)
        self.assertEqual(len(kinds), 4)

    def test_those_who_were_there_at_first(self):
        for named in (1, 2, 3):
            for people in range(named, 10):
                told = [(-1, number, None) for number in range(named, people)]
                self.assertEqual(guests_of((named, (people, ()), ())), told)
                self.assertEqual(guests_of((named, (people, ()), (FLIP,) * 30)), told)

    def test_who_comes_and_leaves(self):
        book = (1, (2, ()), (("come", ()), ("leave", 1), ("come", (1,)), ("leave", 1), FLIP, ("come", ())))
        self.assertEqual(guests_of(book), [(-1, 1, 1), (0, 2, 3), (2, 2, None), (5, 2, None)])

    def test_thirty_entries(self):
        for named in (1, 2, 3):
            book = (named, (named, ()), (("come", ()), ("leave", named)) * 15)
            self.assertEqual(guests_of(book), [(2 * index, named, 2 * index + 1) for index in range(15)])

    def test_wrong_arguments(self):
        refuse(self, guests_of, [((1, (1, ()), ()), InvalidBook, wrong_books())])


class Trails(unittest.TestCase):
    def test_picked(self):
        lengths = set()
        for book in picked_books(461, 60):
            people = len(slow_people(book)[-1])
            for person in range(people):
                for other in range(people):
                    if person != other:
                        trail = trail_of(book, person, other)
                        self.assertEqual(trail, slow_trail(book, person, other))
                        lengths.add(len(trail))
        self.assertGreater(len(lengths), 4)

    def test_those_who_were_there_at_first(self):
        book = (1, (3, ((0, 1),)), (FLIP, FLIP, FORGET, MEET, MEET))
        self.assertEqual(trail_of(book, 1, 2), (0, 1, 3))
        self.assertEqual(trail_of(book, 0, 1), ())
        self.assertEqual(trail_of((1, (3, ()), ()), 2, 1), ())

    def test_those_who_came_one_behind_the_other(self):
        book = (1, (1, ()), (("come", ()), FLIP, FLIP, ("come", (1,)), FLIP, FORGET))
        self.assertEqual(trail_of(book, 1, 2), (3, 4))
        self.assertEqual(trail_of(book, 2, 1), (3, 4))
        self.assertEqual(trail_of(book, 0, 1), (0,))
        self.assertEqual(trail_of(book, 2, 0), (3,))
        # Nothing that both were to others ahead of that counts.
        book = (1, (2, ()), (FLIP, ("come", ()), ("come", ()), MEET))
        self.assertEqual(trail_of(book, 1, 2), (1, 3))
        self.assertEqual(trail_of(book, 3, 2), (2, 3))

    def test_numbers_that_others_had(self):
        # Who is 1 and 2 in the end was 2 and 4 at first.
        book = (1, (5, ()), (FLIP, ("leave", 1), FLIP, ("leave", 2), MEET, FLIP))
        self.assertEqual(trail_of(book, 1, 2), (0, 2, 4, 5))
        book = (1, (3, ((1, 2),)), (("come", (2,)), ("leave", 1), FORGET))
        self.assertEqual(trail_of(book, 1, 2), (0, 2))

    def test_thirty_entries(self):
        picker = Picker(462)
        for named in (1, 2, 3):
            book = pick_book(picker, named, 30, 6)
            people = len(slow_people(book)[-1])
            for person in range(people - 1):
                self.assertEqual(trail_of(book, person, people - 1), slow_trail(book, person, people - 1))
            self.assertEqual(trail_of((named, (9, ()), (FLIP,) * 30), 8, 7), tuple(range(30)))

    def test_wrong_arguments(self):
        gone = (2, (4, ()), (("leave", 3), ("leave", 2), ("come", ())))
        for book in ((1, (3, ()), ()), (3, (3, ()), (FLIP,)), gone):
            nobody = ANYTHING + [3, 4, -3, "0", (0,), [0], ()]
            refuse(self, trail_of, [
                (book, InvalidBook, wrong_books()), (0, InvalidPerson, nobody), (2, InvalidPerson, nobody + [0]),
            ])
        for person in range(3):
            self.assertRaises(InvalidPerson, trail_of, gone, person, person)


class WithoutGuest(unittest.TestCase):
    def test_picked(self):
        for book in picked_books(463, 60):
            for guest in range(len(slow_guests(book))):
                told = without_guest(book, guest)
                self.assertIs(is_book(told), True)
                self.assertEqual(told, slow_without(book, guest))

    def test_the_others_know_one_another_as_they_did(self):
        for book in picked_books(464, 20):
            for guest in range(len(slow_guests(book))):
                told = without_guest(book, guest)
                came, _, left = guests_of(book)[guest]
                rows, companies = slow_people(book), slow_book(book)
                others = [index for index in range(len(rows)) if index - 1 not in (came, left) or index == 0]
                for index, company in zip(others, slow_book(told)):
                    stay = [number for number, name in enumerate(rows[index]) if name != guest]
                    know = [(one, other) for one in range(len(stay)) for other in range(one + 1, len(stay))
                            if slow_know(companies[index], stay[one], stay[other])]
                    self.assertEqual(company, (len(stay), tuple(know)))

    def test_one_who_was_there_at_first(self):
        book = (1, (4, ((0, 2), (1, 2), (1, 3))), (("come", (1, 2, 3)), ("leave", 1), ("come", (1, 3)), ("leave", 2)))
        self.assertEqual(without_guest(book, 0), (1, (3, ((0, 1),)), (("come", (1, 2)), ("come", (1, 3)), ("leave", 2))))
        self.assertEqual(without_guest(book, 1), (1, (3, ((1, 2),)), (("come", (1, 2)), ("leave", 1), ("come", (2,)), ("leave", 1))))
        self.assertEqual(without_guest(book, 2), (1, (3, ((0, 2), (1, 2))), (("come", (1, 2)), ("leave", 1), ("come", (1, 2)))))

    def test_one_who_came_and_left(self):
        book = (1, (2, ()), (("come", (0,)), FLIP, ("come", (1, 2)), ("leave", 2), ("come", (0, 2)), ("leave", 2)))
        self.assertEqual(without_guest(book, 1), (1, (2, ()), (FLIP, ("come", (1,)), ("come", (0, 2)), ("leave", 2))))
        self.assertEqual(without_guest(book, 2), (1, (2, ()), (("come", (0,)), FLIP, ("leave", 2), ("come", (0,)))))
        self.assertEqual(without_guest(book, 3), (1, (2, ()), (("come", (0,)), FLIP, ("come", (1, 2)), ("leave", 2), ("leave", 2))))

    def test_entries_ahead_of_coming_and_behind_leaving_stay(self):
        book = (1, (3, ()), (("leave", 2), ("come", (1,)), ("leave", 2), ("come", (0, 1)), ("leave", 2), ("come", ())))
        self.assertEqual(without_guest(book, 2)[2], (("leave", 2), ("come", (0, 1)), ("leave", 2), ("come", ())))

    def test_thirty_entries(self):
        picker = Picker(465)
        for named in (1, 2, 3):
            book = pick_book(picker, named, 30)
            for guest in range(len(slow_guests(book))):
                self.assertEqual(without_guest(book, guest), slow_without(book, guest))

    def test_wrong_arguments(self):
        for book, many in (((1, (3, ()), ()), 2), ((2, (2, ()), (("come", ()), ("leave", 2))), 1)):
            refuse(self, without_guest, [
                (book, InvalidBook, wrong_books()), (0, InvalidGuest, ANYTHING + [many, many + 1, -1, "0", (0,), [0], ()]),
            ])
        for named in (1, 2, 3):
            for value in (0, 1, -1, None, True):
                self.assertRaises(InvalidGuest, without_guest, (named, (named, ()), (FLIP,)), value)


if __name__ == "__main__":
    unittest.main()
