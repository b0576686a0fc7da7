"""What a book settles, and by which of its rows (points 21 to 23)."""

from settledcases.book import agreed_grade, bounds, check_quiet
from settledcases.judges import CeilingJudge, FloorJudge
from settledcases.order import at_least


def least_judge(book):
    """The judge who gives every case the least grade of all judges that keep the book."""
    check_quiet(book)
    return FloorJudge(book.forum, book.top, book.rows)


def greatest_judge(book):
    """The judge who gives every case the greatest grade of all judges that keep the book."""
    check_quiet(book)
    return CeilingJudge(book.forum, book.top, book.rows)


def reasons(book, case):
    """The deciding rows of the case."""
    low, high = bounds(book, case)
    beneath = [number for number, row in enumerate(book) if row[1] == low and at_least(case, row[0])]
    above = [number for number, row in enumerate(book) if row[1] == high and at_least(row[0], case)]
    first_beneath = None if low == 0 else beneath[0]
    first_above = None if high == book.top else above[0]
    return first_beneath, first_above


def settled_table(book):
    """For each case, in ascending order, the grade that the book settles, or None."""
    check_quiet(book)
    return tuple([agreed_grade(book, case) for case in book.forum])


def unsettled(book):
    """Yields the unsettled cases in ascending order."""
    check_quiet(book)
    for case in book.forum:
        if agreed_grade(book, case) is None:
            yield case
