"""The fewest decisions that settle the same as a book (point 26)."""

from settledcases.book import Book, bounds, check_quiet, check_same
from settledcases.order import strongest, weakest


def least_book(book):
    """The book with only the decisions that every choice of rows needs to settle the same."""
    check_quiet(book)
    rows = []
    for grade in range(book.top, -1, -1):
        rows.extend([(case, grade) for case in edge_cases(book, grade)])
    return Book(book.forum, book.top, rows)


def edge_cases(book, grade):
    """The cases of this grade that bound other cases, ascending."""
    cases = [case for case, given in book if given == grade]
    # The grade 0 bounds no case from below, and the top bounds none from above.
    lower = weakest(cases) if grade > 0 else []
    upper = strongest(cases) if grade < book.top else []
    return sorted(set(lower + upper))


def spare_rows(book):
    """The numbers of the rows that the book could do without, ascending."""
    least = least_book(book)
    return tuple([number for number, row in enumerate(book) if row not in least or row in book.rows[:number]])


def settles_same(a, b):
    """Whether every case has the same bounds in both books."""
    check_same(a, b)
    check_quiet(a)
    check_quiet(b)
    return all([bounds(a, case) == bounds(b, case) for case in a.forum])
