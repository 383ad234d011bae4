"""Points 38 and 81: entries, day-books, their companies, and entries that can be exchanged."""

import unittest

from tests.helpers import Picker, pick_book, pick_entry, refuse, slow_book, wrong_books, wrong_entries, wrong_nameds
from twobesides.daybooks import book_companies, exchanged_entries, is_book
from twobesides.errors import InvalidBook

TURN, KNOW = ("deed", ("tie", 0, 1, "turn")), ("deed", ("tie", 0, 1, "know"))
FLIP, FORGET = ("deed", ("pairs", 0, (1, 1, 1, 0, 0, 0))), ("deed", ("pairs", 0, (0, 0, 0, 0, 0, 0)))


def picked_books(seed, many, most=9):
    picker = Picker(seed)
    for named in (1, 2, 3):
        for _ in range(many):
            yield pick_book(picker, named, picker.below(most + 1))


def slow_is_book(book):
    """Whether entries of the right kinds, of a book with a company, find the people whom they tell of."""
    named, (people, _), entries = book
    for word, told in entries:
        if word == "come":
            if people == 9 or not all(friend < people for friend in told):
                return False
            people += 1
        if word == "leave":
            if not named <= told < people:
                return False
            people -= 1
    return True


def slow_exchanged(book):
    named, company, entries = book
    told = []
    for index in range(len(entries) - 1):
        other = named, company, entries[:index] + (entries[index + 1], entries[index]) + entries[index + 2:]
        if slow_is_book(other) and slow_book(other)[-1] == slow_book(book)[-1]:
            told.append(index)
    return told


class Books(unittest.TestCase):
    def test_picked(self):
        for book in picked_books(450, 40, 30):
            self.assertIs(is_book(book), True)
            self.assertIs(is_book(list(book)), False)
            self.assertIs(is_book((book[0], book[1], list(book[2]))), False)

    def test_picked_with_entries_of_other_books(self):
        told = []
        books = list(picked_books(451, 60))
        for one, other in zip(books, books[1:]):
            if one[0] == other[0]:
                mixed = (one[0], one[1], one[2][:3] + other[2][:4])
                told.append(slow_is_book(mixed))
                self.assertIs(is_book(mixed), told[-1])
        self.assertGreater(min(told.count(True), told.count(False)), 20)

    def test_no_entries_and_thirty(self):
        for named in (1, 2, 3):
            for many in (0, 1, 29, 30):
                self.assertIs(is_book((named, (9, ()), (FLIP,) * many)), True)
            self.assertIs(is_book((named, (9, ()), (FLIP,) * 31)), False)
            self.assertIs(is_book((named, (named, ()), (("come", ()), ("leave", named)) * 15)), True)

    def test_nine_people_and_one_more(self):
        for named in (1, 2, 3):
            for people in range(named, 10):
                for many in range(10 - named):
                    book = (named, (people, ()), (("come", ()),) * many)
                    self.assertIs(is_book(book), people + many <= 9)
            self.assertIs(is_book((named, (9, ()), (("leave", 8), ("come", (7,))))), True)
            self.assertIs(is_book((named, (9, ()), (("leave", 8), ("come", (8,))))), False)
            self.assertIs(is_book((named, (8, ()), (("come", ()), ("leave", 8), ("come", ()), ("come", ())))), False)

    def test_named_ones_do_not_leave(self):
        for named in (1, 2, 3):
            for person in range(6):
                self.assertIs(is_book((named, (5, ()), (("leave", person),))), named <= person < 5)
            self.assertIs(is_book((named, (named, ()), (("leave", named),))), False)

    def test_friends_who_are_there(self):
        for named in (1, 2, 3):
            company = (named + 1, ())
            for friends in ((), (0,), tuple(range(named + 1)), (named,)):
                self.assertIs(is_book((named, company, (("come", friends),))), True)
                self.assertIs(is_book((named, company, (("come", friends[::-1]),))), len(friends) < 2)
            self.assertIs(is_book((named, company, (("come", (named + 1,)),))), False)
            self.assertIs(is_book((named, company, (("come", ()), ("come", (named + 1,))))), True)

    def test_other_values(self):
        for value in wrong_books():
            self.assertIs(is_book(value), False, value)
        for named in (1, 2, 3):
            for people in (named, 5, 9):
                for entry in wrong_entries(named, people):
                    self.assertIs(is_book((named, (people, ()), (entry,))), False, entry)
        for value in wrong_nameds():
            self.assertIs(is_book((value, (3, ()), ())), False)


class Companies(unittest.TestCase):
    def test_picked(self):
        for book in picked_books(452, 60, 12):
            self.assertEqual(book_companies(book), slow_book(book))

    def test_thirty_entries(self):
        picker = Picker(453)
        for named in (1, 2, 3):
            book = pick_book(picker, named, 30)
            self.assertEqual(len(book_companies(book)), 31)
            self.assertEqual(book_companies(book), slow_book(book))

    def test_no_entries(self):
        for named in (1, 2, 3):
            for company in ((named, ()), (9, ((0, 8), (7, 8)))):
                self.assertEqual(book_companies((named, company, ())), [company])

    def test_who_comes_and_who_leaves(self):
        company = (4, ((0, 2), (1, 3), (2, 3)))
        self.assertEqual(book_companies((2, company, (("come", (1, 3)),)))[1], (5, ((0, 2), (1, 3), (1, 4), (2, 3), (3, 4))))
        self.assertEqual(book_companies((2, company, (("leave", 2),)))[1], (3, ((1, 2),)))
        self.assertEqual(book_companies((2, company, (("leave", 3),)))[1], (3, ((0, 2),)))
        self.assertEqual(book_companies((1, company, (("leave", 1), ("leave", 1), ("leave", 1))))[1:], [(3, ((0, 1), (1, 2))), (2, ()), (1, ())])

    def test_wrong_arguments(self):
        for function in (book_companies, exchanged_entries):
            refuse(self, function, [((1, (1, ()), ()), InvalidBook, wrong_books())])


class Exchanged(unittest.TestCase):
    def test_picked(self):
        told = []
        for book in picked_books(454, 80, 10):
            told.append(tuple(exchanged_entries(book)))
            self.assertEqual(list(told[-1]), slow_exchanged(book))
        self.assertGreater(len(set(told)), 50)

    def test_picked_with_few_kinds_of_entries(self):
        picker = Picker(455)
        for named in (1, 2):
            for _ in range(80):
                kinds = [FLIP, FORGET, ("come", ()), ("come", (0,)), ("leave", named), ("leave", named + 1)] + [TURN, KNOW] * (named - 1)
                book = (named, (4, ((0, 3),)), tuple(picker.one_of(kinds) for _ in range(6)))
                if slow_is_book(book):
                    self.assertEqual(exchanged_entries(book), slow_exchanged(book))

    def test_both_as_they_are(self):
        # The one who came cannot leave ahead of having come; one with this number may be there, too.
        self.assertEqual(exchanged_entries((1, (1, ()), (("come", ()), ("leave", 1)))), [])
        self.assertEqual(exchanged_entries((1, (2, ()), (("come", ()), ("leave", 1)))), [0])
        self.assertEqual(exchanged_entries((1, (2, ()), (("come", ()), ("leave", 2)))), [])
        self.assertEqual(exchanged_entries((1, (2, ()), (("come", (1,)), ("leave", 1)))), [])
        self.assertEqual(exchanged_entries((1, (3, ()), (("leave", 2), ("leave", 1)))), [])
        self.assertEqual(exchanged_entries((1, (4, ()), (("leave", 2), ("leave", 1)))), [0])

    def test_not_more_than_nine_in_between(self):
        self.assertEqual(exchanged_entries((1, (9, ()), (("leave", 1), ("come", ())))), [])
        self.assertEqual(exchanged_entries((1, (8, ()), (("leave", 1), ("come", ())))), [0])

    def test_only_the_last_company_counts(self):
        self.assertEqual(exchanged_entries((1, (3, ()), (FLIP, FORGET, FLIP))), [])
        self.assertEqual(exchanged_entries((1, (3, ()), (FLIP, FORGET, FLIP, FORGET))), [0, 1])
        # They are unlike until one of the two besides leaves.
        book = (1, (3, ()), (FLIP, FORGET, FLIP, ("leave", 1)))
        self.assertEqual(exchanged_entries(book), [0, 1, 2])

    def test_people_whose_numbers_are_unlike(self):
        book = (1, (4, ((0, 1), (2, 3))), (("leave", 1), ("leave", 1), ("leave", 1)))
        self.assertEqual(exchanged_entries(book), [0, 1])
        book = (1, (4, ((0, 1), (2, 3))), (("leave", 2), ("leave", 1)))
        self.assertEqual(exchanged_entries(book), slow_exchanged(book))

    def test_no_entries_and_one(self):
        for named in (1, 2, 3):
            self.assertEqual(exchanged_entries((named, (4, ()), ())), [])
            self.assertEqual(exchanged_entries((named, (4, ()), (FLIP,))), [])

    def test_thirty_entries(self):
        picker = Picker(456)
        for named in (1, 2, 3):
            book = pick_book(picker, named, 30)
            self.assertEqual(exchanged_entries(book), slow_exchanged(book))
            self.assertEqual(exchanged_entries((named, (9, ()), (FLIP,) * 30)), list(range(29)))
            self.assertEqual(pick_entry(picker, named, named)[0] in ("deed", "come"), True)


if __name__ == "__main__":
    unittest.main()
