"""A host: a day-book to which entries are written one by one, taken back and done again."""

from twobesides.bookforms import MOST_ENTRIES
from twobesides.checks import check_company
from twobesides.entries import company_behind
from twobesides.errors import InvalidDeed, InvalidFriends, InvalidPerson, NothingToRedo, NothingToUndo, TooMany
from twobesides.forms import MOST_PEOPLE, are_people_of, is_between, is_deed_of


class Host:
    """A day-book that grows, of so many named ones and with a company at first.

    All that is kept are tuples, which are replaced and never changed: so an attempt that fails can
    bring back those that stood ahead of it.
    """

    def __init__(self, named, company):
        check_company(named, company)
        self.named = named
        self.companies = (company,)
        self.entries = ()
        self.undone = ()

    @property
    def book(self):
        """The day-book."""
        return self.named, self.companies[0], self.entries

    @property
    def company(self):
        """The last company."""
        return self.companies[-1]

    def __len__(self):
        return len(self.entries)

    def __eq__(self, other):
        return isinstance(other, Host) and self.book == other.book

    def deed(self, deed):
        """Do a deed."""
        if not is_deed_of(self.named, deed):
            raise InvalidDeed("this is no deed for so many named ones")
        self.enter(("deed", deed))

    def come(self, friends):
        """Let a person come whom just the friends know, and return the number that this one gets."""
        people = self.company[0]
        if not are_people_of(people, friends):
            raise InvalidFriends("these are no people who are there, in ascending order")
        if people == MOST_PEOPLE:
            raise TooMany(MOST_PEOPLE)
        self.enter(("come", friends))
        return people

    def leave(self, person):
        """Let a person besides leave."""
        if not is_between(person, self.named, self.company[0] - 1):
            raise InvalidPerson("nobody besides has this number")
        self.enter(("leave", person))

    def enter(self, entry):
        """Do a new entry: what was taken back ahead of it is lost."""
        if len(self.entries) == MOST_ENTRIES:
            raise TooMany(MOST_ENTRIES)
        self.follow(entry)
        self.undone = ()

    def follow(self, entry):
        """Do an entry."""
        self.companies = self.companies + (company_behind(self.company, entry),)
        self.entries = self.entries + (entry,)

    def undo(self):
        """Take back the last entry that is not taken back yet."""
        if self.entries == ():
            raise NothingToUndo("no entry is left")
        self.undone = self.undone + self.entries[-1:]
        self.entries = self.entries[:-1]
        self.companies = self.companies[:-1]

    def redo(self):
        """Do the last entry again that was taken back and is not done again yet."""
        if self.undone == ():
            raise NothingToRedo("no entry has been taken back since the last new one")
        entry = self.undone[-1]
        self.undone = self.undone[:-1]
        self.follow(entry)

    def attempt(self, action):
        """Return what a function returns that is called with the host; if it fails, all is as it was before."""
        companies, entries, undone = self.companies, self.entries, self.undone
        ended = None
        try:
            answer = action(self)
            ended = True
        finally:
            if ended is None:
                self.companies, self.entries, self.undone = companies, entries, undone
        return answer
