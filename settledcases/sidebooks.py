"""Two books side by side: what both settle, and what divides them (point 27)."""

from settledcases.book import agreed_grade, check_quiet, check_same, check_yes_no
from settledcases.order import join_of, meet_of, strongest, weakest


def common(a, b):
    """The common decisions of two yes-or-no books: the won ones, then the lost ones."""
    check_yes_no(a)
    check_yes_no(b)
    check_same(a, b)
    check_quiet(a)
    check_quiet(b)
    joins = [join_of(one, other) for one in cases_with(a, 1) for other in cases_with(b, 1)]
    meets = [meet_of(one, other) for one in cases_with(a, 0) for other in cases_with(b, 0)]
    return [(case, 1) for case in weakest(joins)] + [(case, 0) for case in strongest(meets)]


def cases_with(book, grade):
    """The cases of the rows with this grade."""
    return [case for case, given in book if given == grade]


def dividing(a, b):
    """Yields the cases that both books settle as different grades, ascending."""
    check_same(a, b)
    check_quiet(a)
    check_quiet(b)
    for case in a.forum:
        grades = [agreed_grade(a, case), agreed_grade(b, case)]
        if None not in grades and grades[0] != grades[1]:
            yield case
