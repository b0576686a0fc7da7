"""Decisions with the rules by which they are decided, and how rules are narrowed (points 40 to 44)."""

from settledcases.book import Book
from settledcases.errors import Bound, NoCase, NoGrade, NoRule, TooLarge
from settledcases.forum import check_case
from settledcases.order import at_least


def narrowed(row, case):
    """The ruled row narrowed against the case."""
    own, rule, grade = row
    if not speaks_for(row, case):
        return own, rule, grade
    # The row's own case is the narrowest rule that the row can have.
    if speaks_for((own, own, grade), case):
        raise NoRule("the rule of this row cannot be narrowed against the case")
    shift = 1 if grade == 1 else -1
    place = first_ahead(own, case, shift)
    return own, rule[:place] + (case[place] + shift,) + rule[place + 1:], grade


def first_ahead(own, case, shift):
    """The first place at which the row's own case is further on its side than the case."""
    return [place for place, level in enumerate(own) if (level - case[place]) * shift > 0][0]


def speaks_for(row, case):
    """Whether the ruled row speaks for the case."""
    _, rule, grade = row
    return at_least(case, rule) if grade == 1 else at_least(rule, case)


class Rules:
    """Ruled rows whose rules never quarrel. It changes only by decide."""

    def __init__(self, forum, rows=()):
        ruled = tuple([(case, rule, grade) for case, rule, grade in rows])
        check_ruled(forum, ruled)
        check_room(ruled)
        self.forum = forum
        self.rows = ()
        self.told = ()
        for case, rule, grade in ruled:
            self.decide(case, rule, grade)

    def decide(self, case, rule, grade):
        """Decides a new row. Returns the numbers of the rows whose rules changed."""
        row = (case, rule, grade)
        check_ruled(self.forum, [row])
        check_room(self.rows + (row,))
        check_bound(self.rows, row)
        before = self.rows + (row,)
        self.rows = with_row(self.rows, row)
        self.told = self.told + (row,)
        return tuple([number for number, old in enumerate(before) if self.rows[number] != old])

    def case_book(self):
        """The yes-or-no book of the cases of the rows."""
        return Book(self.forum, 1, [(case, grade) for case, _, grade in self.rows])

    def rule_book(self):
        """The yes-or-no book of the present rules of the rows."""
        return Book(self.forum, 1, [(rule, grade) for _, rule, grade in self.rows])

    def told_book(self):
        """The yes-or-no book of the rules as they were passed in."""
        return Book(self.forum, 1, [(rule, grade) for _, rule, grade in self.told])

    def speaking(self, case):
        """The numbers of the rows that speak for the case with their present rules."""
        check_case(self.forum, case)
        return tuple([number for number, row in enumerate(self.rows) if speaks_for(row, case)])


def check_ruled(forum, rows):
    """Raise NoCase, NoGrade or NoRule if these are not ruled rows of the forum."""
    if any([case not in forum or rule not in forum for case, rule, _ in rows]):
        raise NoCase("a case or a rule of a row is not a case of the forum")
    if any([grade not in (0, 1) for _, _, grade in rows]):
        raise NoGrade("the grade of a row is not 0 or 1")
    if any([not speaks_for(row, row[0]) for row in rows]):
        raise NoRule("a rule is on the wrong side of its case")


def check_room(rows):
    """Raise TooLarge if these are more rows than a book can have."""
    if len(rows) > Book.ROWS:
        raise TooLarge("there are at most 10 rows")


def check_bound(rows, row):
    """Raise Bound with the number of the first row whose case quarrels with that of the new row."""
    for number, earlier in enumerate(rows):
        if goes_against(earlier, row) or goes_against(row, earlier):
            raise Bound(number)


def goes_against(won, lost):
    """Whether the first row is won, the second one is lost, and the won case is beneath the lost one."""
    return won[2] > lost[2] and at_least(lost[0], won[0])


def with_row(rows, row):
    """The rows and the new row, after the two rounds of narrowing."""
    for case, _, grade in rows:
        if grade != row[2]:
            row = narrowed(row, case)
    return tuple([narrowed(old, row[1]) if old[2] != row[2] else old for old in rows]) + (row,)
