"""Books of decisions, their quarrels, and what they settle (points 10 to 13)."""

from settledcases.errors import AtOdds, NoCase, NoGrade, NoRow, NotYesNo, OtherForum, TooLarge
from settledcases.forum import check_case, same_forum
from settledcases.order import at_least


class Book:
    """Decisions of one forum with the grades from 0 to a top. A book never changes."""

    ROWS = 10
    TOPS = 4

    def __init__(self, forum, top=1, rows=()):
        decisions = checked_decisions(forum, top, rows)
        if len(decisions) > Book.ROWS:
            raise TooLarge("a book has at most 10 rows")
        self.forum = forum
        self.top = top
        self.rows = decisions

    def __iter__(self):
        return iter(self.rows)

    def __contains__(self, x):
        return x in self.rows

    def __or__(self, other):
        check_same(self, other)
        joint = list(self.rows)
        for row in other.rows:
            if row not in joint:
                joint.append(row)
        return Book(self.forum, self.top, joint)

    def __sub__(self, other):
        if any([not 0 <= number < len(self.rows) for number in other]):
            raise NoRow("there is no row with this number")
        kept = [row for number, row in enumerate(self.rows) if number not in other]
        return Book(self.forum, self.top, kept)

    def added(self, case, grade):
        """The book with one more row at the end."""
        return Book(self.forum, self.top, self.rows + ((case, grade),))

    def at(self, threshold):
        """The yes-or-no book at this threshold."""
        if not 1 <= threshold <= self.top:
            raise NoGrade("the threshold is out of range")
        return Book(self.forum, 1, [(case, 1 if grade >= threshold else 0) for case, grade in self.rows])


def check_top(top):
    """Raise NoGrade if this cannot be a top."""
    if not 1 <= top <= Book.TOPS:
        raise NoGrade("the top is out of range")


def checked_decisions(forum, top, rows):
    """The rows as a tuple of decisions. Raises NoCase and NoGrade."""
    decisions = tuple([(case, grade) for case, grade in rows])
    for case, _ in decisions:
        if case not in forum:
            raise NoCase("the case of a row is not a case of the forum")
    check_top(top)
    for _, grade in decisions:
        if not 0 <= grade <= top:
            raise NoGrade("the grade of a row is out of range")
    return decisions


def check_same(one, other):
    """Raise OtherForum if the forums or the tops of two books or judges differ."""
    if one.top != other.top or not same_forum(one.forum, other.forum):
        raise OtherForum("the forums or the tops differ")


def check_yes_no(book):
    """Raise NotYesNo if the top of the book or the judge is not 1."""
    if book.top != 1:
        raise NotYesNo("the top is not 1")


def check_quiet(book):
    """Raise AtOdds if the book has a quarrel."""
    odds = quarrels(book)
    if odds:
        low, high = odds[0]
        raise AtOdds(low, high)


def quarrels(book):
    """All quarrels of the book, in ascending order."""
    numbers = range(len(book.rows))
    return [(low, high) for low in numbers for high in numbers if quarrel_in(book.rows[low], book.rows[high])]


def quarrel_in(low_row, high_row):
    """Whether the first decision is beneath the second one and has the greater grade."""
    return low_row[1] > high_row[1] and at_least(high_row[0], low_row[0])


def floor_grade(rows, case):
    """The greatest grade among the decisions beneath the case, or 0."""
    return max([grade for beneath, grade in rows if at_least(case, beneath)], default=0)


def ceiling_grade(rows, top, case):
    """The least grade among the decisions above the case, or the top."""
    return min([grade for above, grade in rows if at_least(above, case)], default=top)


def bounds(book, case):
    """The two bounds of the case in the book."""
    check_case(book.forum, case)
    return floor_grade(book.rows, case), ceiling_grade(book.rows, book.top, case)


def agreed_grade(book, case):
    """The grade on which the two bounds of the case agree, or None."""
    low, high = bounds(book, case)
    return low if low == high else None


def settled(book, case):
    """The grade that the book settles for the case, or None."""
    check_case(book.forum, case)
    check_quiet(book)
    return agreed_grade(book, case)
