"""Point 83: hosts, which write day-books, take entries back and do them again."""

import unittest

from tests.helpers import ANYTHING, Picker, pick_company, pick_entry, slow_book, wrong_companies, wrong_deeds, wrong_friends
from tests.helpers import wrong_nameds
from twobesides.bundles import bundle_of
from twobesides.daybooks import is_book
from twobesides.errors import BesidesError, InvalidCompany, InvalidDeed, InvalidFriends, InvalidNamed, InvalidPerson
from twobesides.errors import NothingToRedo, NothingToUndo, TooMany
from twobesides.hosts import Host

TURN, KNOW = ("tie", 0, 1, "turn"), ("tie", 0, 1, "know")
FLIP = ("pairs", 0, (1, 1, 1, 0, 0, 0))
P = (4, ((0, 2), (1, 3)))


def enter(host, entry):
    return {"deed": host.deed, "come": host.come, "leave": host.leave}[entry[0]](entry[1])


def state_of(host):
    """The day-book, and what can be undone and redone, of a host, which stays as it is."""
    seen = []

    def look():
        books = [host.book]
        while True:
            try:
                host.redo()
                books.append(host.book)
            except NothingToRedo:
                break
        for step in (host.undo,):
            while True:
                try:
                    step()
                    books.append(host.book)
                except NothingToUndo:
                    break
        seen.append(books)
        raise KeyError

    try:
        host.attempt(lambda told: look())
    except KeyError:
        return host.book, host.company, len(host), seen[0]


class Errors(unittest.TestCase):
    def refused(self, host, error, call, *values):
        """A call raises an error of just this class, and leaves all as it was."""
        before = state_of(host)
        with self.assertRaises(error) as caught:
            call(*values)
        self.assertIs(type(caught.exception), error)
        self.assertEqual(state_of(host), before)
        return caught.exception

    def test_named_and_company(self):
        for named in (1, 2, 3):
            for company in wrong_companies(named):
                with self.assertRaises(InvalidCompany):
                    Host(named, company)
        for value in wrong_nameds():
            for company in (P, (9, ()), None, (10, ())):
                with self.assertRaises(InvalidNamed):
                    Host(value, company)

    def hosts(self, named):
        """Hosts to which something was done, of which something was taken back, or nothing."""
        hosts = [Host(named, (named + 1, ((0, named),))) for _ in range(3)]
        for host in hosts[1:]:
            host.come((0,))
            host.deed(FLIP)
            host.come(())
        hosts[2].undo()
        hosts[2].undo()
        return hosts

    def test_deeds(self):
        for named in (1, 2, 3):
            for host in self.hosts(named):
                for value in ANYTHING + wrong_deeds(named) + [(FLIP,), ("deed", FLIP), ("ask", 0, 1, (), ())]:
                    self.refused(host, InvalidDeed, host.deed, value)

    def test_friends(self):
        for named in (1, 2, 3):
            for host in self.hosts(named):
                for value in wrong_friends(host.company[0]):
                    self.refused(host, InvalidFriends, host.come, value)

    def test_people(self):
        for named in (1, 2, 3):
            for host in self.hosts(named):
                people = host.company[0]
                for value in ANYTHING + list(range(named)) + [people, people + 1, -1, str(named), (named,), [named]]:
                    self.refused(host, InvalidPerson, host.leave, value)
            self.refused(Host(named, (named, ())), InvalidPerson, Host(named, (named, ())).leave, named)

    def test_nothing_to_undo_and_nothing_to_redo(self):
        for named in (1, 2, 3):
            host = Host(named, (named, ()))
            self.refused(host, NothingToUndo, host.undo)
            self.refused(host, NothingToRedo, host.redo)
            host.deed(FLIP)
            self.refused(host, NothingToRedo, host.redo)
            host.undo()
            self.refused(host, NothingToUndo, host.undo)
            host.redo()
            self.refused(host, NothingToRedo, host.redo)

    def test_nine_people(self):
        for named in (1, 2, 3):
            host = Host(named, (8, ()))
            self.assertEqual(host.come(()), 8)
            self.assertEqual(self.refused(host, TooMany, host.come, (0,)).limit, 9)
            for value in wrong_friends(9):
                self.refused(host, InvalidFriends, host.come, value)
            host.leave(named)
            self.assertEqual(host.come(()), 8)

    def test_thirty_entries(self):
        for named in (1, 2, 3):
            host = Host(named, (8, ()))
            for _ in range(30):
                host.deed(FLIP)
            self.assertEqual(self.refused(host, TooMany, host.deed, FLIP).limit, 30)
            self.assertEqual(self.refused(host, TooMany, host.come, ()).limit, 30)
            self.assertEqual(self.refused(host, TooMany, host.leave, 7).limit, 30)
            self.refused(host, InvalidDeed, host.deed, (FLIP,))
            self.refused(host, InvalidFriends, host.come, (8,))
            self.refused(host, InvalidPerson, host.leave, 8)
            # Entries that were taken back do not count.
            host.undo()
            self.assertEqual(len(host), 29)
            host.redo()
            self.assertEqual(self.refused(host, TooMany, host.deed, FLIP).limit, 30)
            host.undo()
            self.assertEqual(host.come(()), 8)
            self.assertEqual(len(host), 30)
            # Nine people are told ahead of thirty entries.
            self.assertEqual(self.refused(host, TooMany, host.come, ()).limit, 9)
            self.assertEqual(self.refused(host, TooMany, host.leave, 8).limit, 30)
            self.assertIs(is_book(host.book), True)


class Entries(unittest.TestCase):
    def test_a_new_host(self):
        for named in (1, 2, 3):
            for company in ((named, ()), (9, ((0, 8), (7, 8)))):
                host = Host(named, company)
                self.assertEqual(host.book, (named, company, ()))
                self.assertEqual(host.company, company)
                self.assertEqual(len(host), 0)

    def test_what_is_returned(self):
        host = Host(2, P)
        self.assertIsNone(host.deed(TURN))
        self.assertEqual(host.come((0, 3)), 4)
        self.assertEqual(host.come(()), 5)
        self.assertIsNone(host.leave(2))
        self.assertEqual(host.come(()), 5)
        self.assertIsNone(host.undo())
        self.assertIsNone(host.redo())

    def test_picked(self):
        """A host beside lists of entries that are done, and that were taken back."""
        picker = Picker(470)
        for named in (1, 2, 3):
            for _ in range(20):
                company = pick_company(picker, named + picker.below(10 - named))
                host, entries, undone = Host(named, company), [], []
                for _ in range(40):
                    what = picker.below(5)
                    if what == 0 and entries != []:
                        host.undo()
                        undone.append(entries.pop())
                    elif what == 1 and undone != []:
                        host.redo()
                        entries.append(undone.pop())
                    elif len(entries) < 30:
                        entry = pick_entry(picker, named, host.company[0])
                        people = host.company[0]
                        self.assertEqual(enter(host, entry), people if entry[0] == "come" else None)
                        entries.append(entry)
                        undone = []
                    self.assertEqual(host.book, (named, company, tuple(entries)))
                    self.assertEqual(host.company, slow_book(host.book)[-1])
                    self.assertEqual(len(host), len(entries))
                    self.assertIs(is_book(host.book), True)
                self.assertEqual(len(state_of(host)[3]), 1 + len(undone) + len(undone) + len(entries))

    def test_thirty_entries_taken_back_and_done_again(self):
        picker = Picker(471)
        for named in (1, 2, 3):
            host, books = Host(named, (5, ())), []
            for _ in range(30):
                books.append(host.book)
                enter(host, pick_entry(picker, named, host.company[0]))
            books.append(host.book)
            for book in books[:-1][::-1]:
                host.undo()
                self.assertEqual(host.book, book)
                self.assertEqual(host.company, slow_book(book)[-1])
            for book in books[1:]:
                host.redo()
                self.assertEqual(host.book, book)

    def test_a_new_entry_ends_what_can_be_done_again(self):
        for entry in (("deed", KNOW), ("come", ()), ("leave", 2)):
            host = Host(2, P)
            host.deed(TURN)
            host.deed(KNOW)
            host.undo()
            host.undo()
            enter(host, entry)
            self.assertRaises(NothingToRedo, host.redo)
            host.undo()
            self.assertEqual(host.book, (2, P, ()))
            host.redo()
            self.assertEqual(host.book, (2, P, (entry,)))

    def test_what_is_refused_ends_nothing(self):
        host = Host(2, (9, ()))
        host.deed(TURN)
        host.undo()
        for call, value in ((host.deed, None), (host.come, (9,)), (host.come, ()), (host.leave, 0)):
            self.assertRaises(BesidesError, call, value)
        host.redo()
        self.assertEqual(host.book[2], (("deed", TURN),))

    def test_books_that_were_read_stay(self):
        host = Host(2, P)
        book = host.book
        host.come((0,))
        self.assertEqual(book, (2, P, ()))
        self.assertEqual(host.book, (2, P, (("come", (0,)),)))


class Attempts(unittest.TestCase):
    def test_what_is_returned(self):
        host = Host(2, P)
        self.assertEqual(host.attempt(lambda told: told.come((0,))), 4)
        self.assertIs(host.attempt(lambda told: told), host)
        self.assertIsNone(host.attempt(lambda told: None))
        self.assertIsNone(host.attempt(lambda told: told.deed(TURN)))
        self.assertEqual(host.book[2], (("come", (0,)), ("deed", TURN)))
        self.assertEqual(host.attempt(len), 2)

    def test_that_succeeds_is_taken_back_entry_by_entry(self):
        host = Host(2, P)

        def action(told):
            told.deed(TURN)
            told.deed(KNOW)
            told.undo()
            told.come(())

        host.attempt(action)
        self.assertEqual(host.book[2], (("deed", TURN), ("come", ())))
        self.assertRaises(NothingToRedo, host.redo)
        host.undo()
        self.assertEqual(host.book[2], (("deed", TURN),))
        host.redo()
        host.undo()
        host.undo()
        self.assertEqual(host.book, (2, P, ()))

    def prepared(self):
        host = Host(2, P)
        for entry in (("deed", TURN), ("come", (0,)), ("deed", KNOW), ("leave", 2)):
            enter(host, entry)
        host.undo()
        host.undo()
        return host

    def test_that_ends_with_an_error(self):
        for error in (KeyError, ValueError, InvalidDeed, RuntimeError, KeyboardInterrupt, SystemExit, StopIteration):
            for steps in ("", "u", "r", "uu", "rr", "d", "ud", "rd", "rrc", "uuc", "dcul", "rul", "dudud"):
                host = self.prepared()
                before = state_of(host)

                def action(told):
                    calls = {"u": told.undo, "r": told.redo, "d": lambda: told.deed(FLIP), "c": lambda: told.come(()), "l": lambda: told.leave(2)}
                    for step in steps:
                        calls[step]()
                    raise error("why")

                with self.assertRaises(error) as caught:
                    host.attempt(action)
                self.assertIs(type(caught.exception), error)
                self.assertEqual(caught.exception.args, ("why",))
                self.assertEqual(state_of(host), before)
                host.redo()
                host.redo()
                self.assertEqual(host.book[2], (("deed", TURN), ("come", (0,)), ("deed", KNOW), ("leave", 2)))

    def test_errors_of_the_host_go_on(self):
        host = self.prepared()
        before = state_of(host)

        def action(told):
            told.deed(FLIP)
            told.leave(0)

        self.assertRaises(InvalidPerson, host.attempt, action)
        self.assertEqual(state_of(host), before)

    def test_what_is_no_function(self):
        for value in (None, 5, "deed", ()):
            host = self.prepared()
            before = state_of(host)
            self.assertRaises(TypeError, host.attempt, value)
            self.assertEqual(state_of(host), before)

    def test_attempts_in_attempts(self):
        host = self.prepared()

        def inner(told):
            told.come(())
            raise KeyError("inner")

        def caught(told):
            told.deed(FLIP)
            try:
                told.attempt(inner)
            except KeyError:
                told.deed(KNOW)
            return len(told)

        self.assertEqual(host.attempt(caught), 4)
        self.assertEqual(host.book[2], (("deed", TURN), ("come", (0,)), ("deed", FLIP), ("deed", KNOW)))
        before = state_of(host)

        def failing(told):
            told.undo()
            told.attempt(lambda one: one.come(()))
            told.attempt(inner)

        self.assertRaises(KeyError, host.attempt, failing)
        self.assertEqual(state_of(host), before)

        def outer(told):
            told.attempt(lambda one: one.come(()))
            raise IndexError

        self.assertRaises(IndexError, host.attempt, outer)
        self.assertEqual(state_of(host), before)

    def test_two_hosts(self):
        one, other = self.prepared(), self.prepared()

        def action(told):
            told.deed(FLIP)
            other.deed(FLIP)
            raise KeyError

        self.assertRaises(KeyError, one.attempt, action)
        self.assertEqual(one.book[2], (("deed", TURN), ("come", (0,))))
        self.assertEqual(other.book[2], (("deed", TURN), ("come", (0,)), ("deed", FLIP)))


class Values(unittest.TestCase):
    def test_equal_just_if_the_books_are(self):
        one, other = Host(2, P), Host(2, P)
        self.assertTrue(one == other and not one != other and one == one)
        one.deed(TURN)
        self.assertTrue(one != other and not one == other)
        other.deed(KNOW)
        self.assertFalse(one == other)
        # Both companies are one now, but not both day-books.
        self.assertEqual(one.company, other.company)
        other.undo()
        other.deed(TURN)
        self.assertTrue(one == other)
        one.deed(KNOW)
        one.undo()
        self.assertTrue(one == other)
        self.assertFalse(Host(1, (3, ())) == Host(2, (3, ())))
        self.assertFalse(Host(2, (3, ())) == Host(2, (4, ())))

    def test_equal_to_nothing_else(self):
        host = Host(2, P)
        for value in ANYTHING + [host.book, list(host.book), P, 0, bundle_of([P]), Host, object()]:
            self.assertIs(host == value, False)
            self.assertIs(value == host, False)
            self.assertIs(host != value, True)

    def test_iterating(self):
        for host in (Host(2, P), Host(1, (1, ()))):
            for call in (iter, list, tuple, sorted, set, sum, dict, enumerate, lambda told: [row for row in told], lambda told: 1 in told):
                self.assertRaises(TypeError, call, host)
            host.come(())
            self.assertRaises(TypeError, iter, host)
            self.assertRaises(TypeError, lambda: host[0])

    def test_properties(self):
        host = Host(2, P)
        for name in ("book", "company"):
            self.assertIsInstance(vars(Host)[name], property)
            self.assertRaises(AttributeError, setattr, host, name, None)
        for name in ("__init__", "__len__", "__eq__", "deed", "come", "leave", "undo", "redo", "attempt"):
            self.assertIn(name, vars(Host))

    def test_as_any_value(self):
        host = Host(2, P)
        for value in ((2, host, ()), (host, P, ()), (2, P, (host,)), (2, P, (("come", host),)), (2, P, (("deed", host),)), host):
            self.assertIs(is_book(value), False)
        self.assertRaises(InvalidDeed, host.deed, host)
        self.assertRaises(InvalidFriends, host.come, host)
        self.assertRaises(InvalidPerson, host.leave, host)


if __name__ == "__main__":
    unittest.main()
