"""Judges, who give every case of a forum a grade (point 14)."""

from settledcases.book import ceiling_grade, check_same, check_top, checked_decisions, floor_grade
from settledcases.forum import check_case


class Judge:
    """The judge who gives every case the grade 0, and the base class of all judges."""

    KIND = "judge"

    def __init__(self, forum, top=1):
        check_top(top)
        self.forum = forum
        self.top = top

    def __call__(self, case):
        check_case(self.forum, case)
        return self.grade_of(case)

    def grade_of(self, case):
        """The grade of a case of the forum."""
        return 0

    def table(self):
        """The grades of all cases, in ascending order of the cases."""
        return tuple([self.grade_of(case) for case in self.forum])

    def first_break(self, book):
        """The number of the first row whose grade the judge does not give, or None."""
        check_same(self, book)
        for number, (case, grade) in enumerate(book):
            if self.grade_of(case) != grade:
                return number
        return None

    def keeps(self, book):
        """Whether the judge gives the case of every row the grade of the row."""
        return self.first_break(book) is None

    def parting(self, other):
        """The first case to which the two judges give different grades, or None."""
        check_same(self, other)
        for case in self.forum:
            if self.grade_of(case) != other.grade_of(case):
                return case
        return None


class FloorJudge(Judge):
    """Gives a case the greatest grade among the decisions beneath it."""

    KIND = "rising"

    def __init__(self, forum, top, rows):
        self.rows = checked_decisions(forum, top, rows)
        Judge.__init__(self, forum, top)

    def grade_of(self, case):
        """The greatest grade among the decisions beneath the case, or 0."""
        return floor_grade(self.rows, case)


class CeilingJudge(Judge):
    """Gives a case the least grade among the decisions above it."""

    KIND = "rising"

    def __init__(self, forum, top, rows):
        self.rows = checked_decisions(forum, top, rows)
        Judge.__init__(self, forum, top)

    def grade_of(self, case):
        """The least grade among the decisions above the case, or the top."""
        return ceiling_grade(self.rows, self.top, case)
