"""How many asks are enough to learn how a judge decides, and which asks are best (points 78 to 81)."""

from settledcases.book import agreed_grade, check_yes_no
from settledcases.errors import TooLarge
from settledcases.forum import check_case
from settledcases.order import at_least
from settledcases.settling import unsettled

MOST_UNSETTLED = 8


def few_unsettled(book):
    """The unsettled cases of the book, ascending. Raises NotYesNo, TooLarge and AtOdds."""
    check_yes_no(book)
    cases = tuple(unsettled(book))
    if len(cases) > MOST_UNSETTLED:
        raise TooLarge("the book has more than 8 unsettled cases")
    return cases


def without_above(cases, case):
    """The cases that are not above this one."""
    return tuple([other for other in cases if not at_least(other, case)])


def without_beneath(cases, case):
    """The cases that are not beneath this one."""
    return tuple([other for other in cases if not at_least(case, other)])


def worth(cases, known):
    """The worth of the cases. The dict known keeps each worth, as the same sets remain again and again."""
    if not cases:
        return 0
    if cases not in known:
        known[cases] = 1 + min([worth_after(cases, case, known) for case in cases])
    return known[cases]


def worth_after(cases, case, known):
    """The greater one of the worths of the two remainders."""
    return max(worth(without_above(cases, case), known), worth(without_beneath(cases, case), known))


def fewest_asks(book):
    """How many asks are always enough, if they are chosen well."""
    return worth(few_unsettled(book), {})


def best_ask(book):
    """The first best ask, or None if no case is unsettled."""
    cases = few_unsettled(book)
    known = {}
    worths = [worth_after(cases, case, known) for case in cases]
    return cases[worths.index(min(worths))] if cases else None


def hard_answer(book, case):
    """The answer at the case that leaves the greater worth, or the settled grade."""
    check_yes_no(book)
    check_case(book.forum, case)
    cases = few_unsettled(book)
    if case not in cases:
        return agreed_grade(book, case)
    known = {}
    return 1 if worth(without_above(cases, case), known) > worth(without_beneath(cases, case), known) else 0
