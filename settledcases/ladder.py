"""For each kind of judges, one that keeps a book or a paper against it (points 46 and 55)."""

from settledcases.balance import weighing_keeper
from settledcases.book import check_yes_no, quarrels
from settledcases.closing import ranked_keeper, single_keeper
from settledcases.errors import NoKeeper
from settledcases.judges import FloorJudge
from settledcases.papers import Paper, Quarrel


def rising_keeper(book):
    """The floor judge of the rows or, if the book has a quarrel, the first one."""
    check_yes_no(book)
    odds = quarrels(book)
    if odds:
        low, high = odds[0]
        return Quarrel(low, high)
    return FloorJudge(book.forum, 1, book.rows)


def keeper(kind, book):
    """A judge of the kind that keeps the book or, if there is none, a paper that holds against it."""
    if kind == "single":
        return single_keeper(book)
    if kind == "ranked":
        return ranked_keeper(book)
    if kind == "weighing":
        return weighing_keeper(book)
    return rising_keeper(book)


def verdict(kind, book, case):
    """What the kind settles for the case, with a paper, or None with a judge for each grade."""
    check_yes_no(book)
    as_lost = book.added(case, 0)
    as_won = book.added(case, 1)
    if isinstance(keeper(kind, book), Paper):
        raise NoKeeper(kind)
    lost = keeper(kind, as_lost)
    won = keeper(kind, as_won)
    if isinstance(lost, Paper):
        return 1, lost
    if isinstance(won, Paper):
        return 0, won
    return None, (lost, won)
