"""The fewest decisions that teach how a judge decides, and judges turned at a case (points 84 and 85)."""

from settledcases.book import check_yes_no
from settledcases.learner import check_keeping
from settledcases.order import strongest, weakest
from settledcases.rising import TableJudge
from settledcases.settling import unsettled


def teaching(book, judge):
    """The teaching of the judge: the won decisions, then the lost ones."""
    check_keeping(book, judge)
    cases = list(unsettled(book))
    won = weakest([case for case in cases if judge.grade_of(case) == 1])
    lost = strongest([case for case in cases if judge.grade_of(case) == 0])
    return [(case, 1) for case in won] + [(case, 0) for case in lost]


def turned_judge(judge, case):
    """The judge with the other grade at the case."""
    check_yes_no(judge)
    number = judge.forum.number(case)
    grades = judge.table()
    return TableJudge(judge.forum, 1, grades[:number] + (1 - grades[number],) + grades[number + 1:])
