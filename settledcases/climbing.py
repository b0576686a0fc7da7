"""Judges of one kind as judges of another kind, and papers as papers of the narrower kind (points 56 and 57)."""

from settledcases.book import Book, check_yes_no
from settledcases.errors import NoRung, TooLarge
from settledcases.judges import FloorJudge
from settledcases.kinds import RankedJudge, SingleJudge, WeighingJudge
from settledcases.ladder import keeper
from settledcases.order import strongest, weakest
from settledcases.papers import Balance, ClosedSet, FailedSteps, Paper, Quarrel, step_fails
from settledcases.rising import MOST_CASES


def climb(judge):
    """The judge of the next wider kind with the same grades."""
    if isinstance(judge, SingleJudge):
        return RankedJudge(judge.forum, [(judge.step, 1)], 0)
    if isinstance(judge, RankedJudge):
        return weighing_form(judge)
    if isinstance(judge, WeighingJudge):
        return floor_form(judge)
    raise NoRung("this judge climbs no further")


def weighing_form(judge):
    """The weighing judge with the same grades as the ranked judge."""
    weights = [0] * len(judge.forum.steps)
    bar = 1 if judge.default == 0 else 0
    # Each ground weighs more than all grounds behind it together.
    weight = 1
    for step, side in reversed(list(judge.grounds)):
        weights[step] = weight
        if side == 0:
            bar += weight
        weight *= 2
    return WeighingJudge(judge.forum, weights, bar)


def floor_form(judge):
    """The floor judge with the same grades, by the weakest cases of the grade 1."""
    return FloorJudge(judge.forum, 1, [(case, 1) for case in weakest(cases_given(judge, 1))])


def cases_given(judge, grade):
    """The cases to which the judge gives the grade, ascending."""
    return [case for case in judge.forum if judge.grade_of(case) == grade]


def descend(paper, book):
    """The paper of the next narrower kind, for a paper that holds against the book."""
    check_yes_no(book)
    if isinstance(paper, Quarrel):
        return Balance([(row, 1) for row in paper.row_numbers()])
    if isinstance(paper, Balance):
        return ClosedSet(paper.row_numbers())
    if isinstance(paper, ClosedSet):
        return FailedSteps([first_failing(book, step, paper.rows) for step in range(len(book.forum.steps))])
    raise NoRung("this paper descends no further")


def first_failing(book, step, numbers):
    """The first of the rows that the single judge of the step gives the other grade."""
    return [row for row in numbers if step_fails(book, step, row)][0]


def rung_of(judge):
    """A judge of the narrowest kind with the same grades."""
    check_yes_no(judge)
    if judge.forum.size > MOST_CASES:
        raise TooLarge("the forum has more than 16 cases")
    book = edge_book(judge)
    for kind in ("single", "ranked", "weighing"):
        found = keeper(kind, book)
        if not isinstance(found, Paper):
            return found
    return floor_form(judge)


def edge_book(judge):
    """The book of the weakest won and the strongest lost cases, which only judges with the same grades keep."""
    # A forum with at most 16 cases has at most 10 of them, so the book has room.
    won = [(case, 1) for case in weakest(cases_given(judge, 1))]
    lost = [(case, 0) for case in strongest(cases_given(judge, 0))]
    return Book(judge.forum, 1, won + lost)
