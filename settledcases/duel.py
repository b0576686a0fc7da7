"""Duels, in which two sides bring unsettled cases in turn (point 88)."""

from settledcases.asks import few_unsettled, without_above, without_beneath
from settledcases.book import check_yes_no
from settledcases.errors import Finished, NoGrade


def duel_value(book, side):
    """How many unsettled cases are won in the end if the side begins and both choose best."""
    return most_won(duel_cases(book, side), side, {})


def duel_move(book, side):
    """The first best case with which the side can begin."""
    cases = duel_cases(book, side)
    if not cases:
        raise Finished("no case is unsettled")
    known = {}
    value = most_won(cases, side, known)
    return [case for case in cases if won_after(cases, case, side, known) == value][0]


def duel_cases(book, side):
    """The unsettled cases of the book. Raises NotYesNo, NoGrade, TooLarge and AtOdds."""
    check_yes_no(book)
    if side not in (0, 1):
        raise NoGrade("the side is not 0 or 1")
    return few_unsettled(book)


def most_won(cases, side, known):
    """How many of the remaining cases are won if this side has the turn. The dict known keeps what was found."""
    if not cases:
        return 0
    if (cases, side) not in known:
        values = [won_after(cases, case, side, known) for case in cases]
        known[(cases, side)] = max(values) if side == 1 else min(values)
    return known[(cases, side)]


def won_after(cases, case, side, known):
    """How many of the remaining cases are won if this side brings the case."""
    if side == 0:
        return most_won(without_beneath(cases, case), 1, known)
    rest = without_above(cases, case)
    return len(cases) - len(rest) + most_won(rest, 0, known)
