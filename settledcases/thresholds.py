"""Books taken apart into yes-or-no books and put together again (points 11, 36 and 37)."""

from settledcases.book import Book, check_same, check_yes_no
from settledcases.errors import NoCase, NoGrade, NoRow
from settledcases.overruling import apart


def threshold_books(book):
    """The yes-or-no books at all thresholds from 1 to the top."""
    return [book.at(threshold) for threshold in range(1, book.top + 1)]


def stacked(books):
    """The book whose grades are the sums of the grades in the yes-or-no books."""
    check_stack(books)
    first = books[0]
    grades = [sum([book.rows[number][1] for book in books]) for number in range(len(first.rows))]
    return Book(first.forum, len(books), [(case, grade) for (case, _), grade in zip(first, grades)])


def check_stack(books):
    """Raise an error if the books cannot be stacked."""
    for book in books:
        check_yes_no(book)
    for book in books:
        check_same(books[0], book)
    # Later books may have more rows than the first one, so each two are compared.
    twos = [(books[i], books[j]) for j in range(len(books)) for i in range(j)]
    if any([differ_in_case(earlier, later) for earlier, later in twos]):
        raise NoCase("two books have different cases in a row")
    if not 1 <= len(books) <= Book.TOPS:
        raise NoGrade("there are not 1 to 4 books")
    if any([rise_in_grade(earlier, later) for earlier, later in twos]):
        raise NoGrade("a row has a greater grade in a later book")
    if any([len(book.rows) != len(books[0].rows) for book in books]):
        raise NoRow("the books do not have the same number of rows")


def differ_in_case(earlier, later):
    """Whether the books have different cases in a row that both have."""
    return any([one[0] != other[0] for one, other in zip(earlier, later)])


def rise_in_grade(earlier, later):
    """Whether a row that both books have has a greater grade in the later one."""
    return any([one[1] < other[1] for one, other in zip(earlier, later)])


def award_papers(book, prices=None):
    """For each threshold, quarrels with numbers as apart returns them."""
    return [apart(level, prices) for level in threshold_books(book)]
