"""Rising tables, and all tables of the judges that keep a book (points 24 and 25)."""

from settledcases.book import bounds, check_yes_no
from settledcases.errors import NoJudge, TooLarge
from settledcases.judges import Judge
from settledcases.order import at_least

MOST_CASES = 16


def is_rising(forum, table):
    """Whether no case has a smaller number in the table than a case beneath it."""
    entries = list(zip(forum, table))
    return all([lower <= number for case, number in entries for lower in numbers_beneath(entries, case)])


def numbers_beneath(entries, case):
    """The numbers of the entries whose cases are beneath the case."""
    return [number for other, number in entries if at_least(case, other)]


class TableJudge(Judge):
    """Gives each case the grade that a rising table has for it."""

    KIND = "rising"

    def __init__(self, forum, top, table):
        Judge.__init__(self, forum, top)
        grades = tuple(table)
        if len(grades) != forum.size or any([not 0 <= grade <= top for grade in grades]):
            raise NoJudge("this is not a table of grades of the forum")
        if not is_rising(forum, grades):
            raise NoJudge("the table is not rising")
        self.grades = grades

    def grade_of(self, case):
        """The grade that the table has for the case."""
        return self.grades[self.forum.number(case)]


def rising_tables(book):
    """Yields the tables of all judges that keep the yes-or-no book, in ascending order."""
    check_yes_no(book)
    if book.forum.size > MOST_CASES:
        raise TooLarge("the forum has more than 16 cases")
    tables = [()]
    for case in book.forum:
        # All cases beneath a case come before it, so each table can grow case by case.
        tables = [table + (grade,) for table in tables for grade in next_grades(book, case, table)]
    yield from tables


def next_grades(book, case, table):
    """The grades that the case can get after the grades that the cases before it have in the table."""
    low, high = bounds(book, case)
    least = max(numbers_beneath(list(zip(book.forum, table)), case), default=0)
    return list(range(max(low, least), high + 1))
