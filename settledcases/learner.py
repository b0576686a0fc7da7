"""Learners, who ask a judge one case after the other (points 82 and 83)."""

from settledcases.book import ceiling_grade, check_quiet, check_same, check_yes_no, floor_grade
from settledcases.errors import Bound, Finished, NoGrade
from settledcases.judges import FloorJudge
from settledcases.order import at_least


class Learner:
    """Begins with a yes-or-no book and takes answers. It changes only by answer."""

    def __init__(self, book):
        check_yes_no(book)
        check_quiet(book)
        self.start = book
        self.answers = ()

    @property
    def remaining(self):
        """The number of cases that are still unsettled."""
        return len(cases_left(self.start, self.answers))

    def next_ask(self):
        """The case of which the less telling answer settles as much as possible."""
        cases = cases_left(self.start, self.answers)
        if not cases:
            raise Finished("no case is unsettled")
        numbers = [surely_settled(cases, case) for case in cases]
        return cases[numbers.index(max(numbers))]

    def answer(self, grade):
        """Takes the answer at the next ask."""
        if grade not in (0, 1):
            raise NoGrade("the answer is not 0 or 1")
        self.answers = self.answers + ((self.next_ask(), grade),)

    def judge(self):
        """The floor judge of all that is known."""
        return FloorJudge(self.start.forum, 1, self.start.rows + self.answers)


def cases_left(book, answers):
    """The cases that the book and the answers together leave unsettled, ascending."""
    rows = book.rows + answers
    return [case for case in book.forum if floor_grade(rows, case) != ceiling_grade(rows, book.top, case)]


def surely_settled(cases, case):
    """How many of the cases an answer at this one settles at least."""
    above = [other for other in cases if at_least(other, case)]
    beneath = [other for other in cases if at_least(case, other)]
    return min(len(above), len(beneath))


def check_keeping(book, judge):
    """Raise an error if this is no quiet yes-or-no book that the judge keeps."""
    check_yes_no(book)
    check_same(book, judge)
    check_quiet(book)
    row = judge.first_break(book)
    if row is not None:
        raise Bound(row)


def asked(book, judge):
    """Yields the answers of a learner that begins with the book and asks the judge."""
    check_keeping(book, judge)
    learner = Learner(book)
    while learner.remaining > 0:
        learner.answer(judge.grade_of(learner.next_ask()))
        yield learner.answers[-1]
