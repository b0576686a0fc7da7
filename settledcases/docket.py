"""Dockets, whose rows change by deeds that can be undone (points 89 to 93)."""

from settledcases.book import Book, bounds, quarrels
from settledcases.errors import NoGrade, NoRow, NothingToRedo, NothingToUndo


class Docket:
    """Decisions that change by deeds. The present book is replaced by each deed, as books never change."""

    def __init__(self, forum, top=1):
        self._book = Book(forum, top)
        self.forum = forum
        self.top = top
        self.deeds = ()
        # In place of its two stacks of deeds a docket keeps, for each deed on the first
        # one, the book before it, and for each deed on the second one, the book after it.
        self._books_before = ()
        self._books_after = ()

    def __iter__(self):
        return iter(self._book.rows)

    def __contains__(self, x):
        return x in self._book.rows

    def __getitem__(self, at):
        check_row(self._book, at)
        return self._book.rows[at]

    def __setitem__(self, at, worth):
        self.regrade(at, worth)

    @property
    def now(self):
        """The present book."""
        return self._book

    @property
    def odds(self):
        """The quarrels, ascending."""
        return tuple(quarrels(self._book))

    def bounds_at(self, case):
        """The two bounds of the case."""
        return bounds(self._book, case)

    def decide(self, case, grade):
        """Adds a decision at the end of the rows."""
        self._turn_to(self._book.added(case, grade), ("decide", case, grade))

    def strike(self, number):
        """Removes the row with this number."""
        self._turn_to(self._book - [number], ("strike", number))

    def regrade(self, number, grade):
        """Replaces the grade of the row with this number."""
        self._turn_to(with_grade(self._book, number, grade), ("regrade", number, grade))

    def _turn_to(self, book, deed):
        """Does a deed after which this is the present book."""
        self._books_before = self._books_before + (self._book,)
        self._books_after = ()
        self._book = book
        self.deeds = self.deeds + (deed,)

    def undo(self):
        """Takes the last deed back."""
        if not self._books_before:
            raise NothingToUndo("no deed can be undone")
        self._books_after = self._books_after + (self._book,)
        self._book = self._books_before[-1]
        self._books_before = self._books_before[:-1]
        self.deeds = self.deeds + (("undo",),)

    def redo(self):
        """Does the deed again that was taken back last."""
        if not self._books_after:
            raise NothingToRedo("no deed can be done again")
        self._books_before = self._books_before + (self._book,)
        self._book = self._books_after[-1]
        self._books_after = self._books_after[:-1]
        self.deeds = self.deeds + (("redo",),)

    def trial(self):
        """An object for one with statement, whose block has no effect if it ends with an exception."""
        return Trial(self)

    def attempt(self, deeds):
        """Does all of the deeds in order, or none of them."""
        with self.trial():
            for deed in deeds:
                do_deed(self, deed)


class Trial:
    """Gives a docket back what it had at the beginning of a with statement."""

    def __init__(self, docket):
        self.docket = docket

    def __enter__(self):
        self.book = self.docket._book
        self.deeds = self.docket.deeds
        self.books_before = self.docket._books_before
        self.books_after = self.docket._books_after

    def __exit__(self, kind, value, trace):
        if kind is not None:
            self.docket._book = self.book
            self.docket.deeds = self.deeds
            self.docket._books_before = self.books_before
            self.docket._books_after = self.books_after


def check_row(book, number):
    """Raise NoRow if the book has no row with this number."""
    if not 0 <= number < len(book.rows):
        raise NoRow("there is no row with this number")


def with_grade(book, number, grade):
    """The book with this grade in the row with this number."""
    if not 0 <= grade <= book.top:
        raise NoGrade("the grade is out of range")
    check_row(book, number)
    case, _ = book.rows[number]
    return Book(book.forum, book.top, book.rows[:number] + ((case, grade),) + book.rows[number + 1:])


def do_deed(docket, deed):
    """Does a deed, which has one of the five forms, on the docket."""
    match deed:
        case ("decide", ruled, grade):
            docket.decide(ruled, grade)
        case ("strike", number):
            docket.strike(number)
        case ("regrade", number, grade):
            docket.regrade(number, grade)
        case ("undo",):
            docket.undo()
        case ("redo",):
            docket.redo()
