"""Ranked and single judges that keep a book, or papers against them (points 49 and 51 to 53)."""

from settledcases.book import check_yes_no
from settledcases.kinds import RankedJudge, SingleJudge, ground_speaks
from settledcases.papers import ClosedSet, FailedSteps


def closing(book):
    """The grounds that closing takes, in order, and the numbers of the rows in the rest."""
    check_yes_no(book)
    left = list(range(len(book.rows)))
    grounds = []
    found = good_grounds(book, left)
    while found:
        grounds.append(found[0])
        left = [row for row in left if row not in spoken_for(book, found[0], left)]
        found = good_grounds(book, left)
    return tuple(grounds), tuple(left)


def good_grounds(book, left):
    """The good grounds in their order. There are none if only won or only lost rows are left."""
    if not has_both(book, left):
        return []
    grounds = [(step, side) for step in range(len(book.forum.steps)) for side in (1, 0)]
    return [ground for ground in grounds if grades_in(book, spoken_for(book, ground, left)) == [ground[1]]]


def spoken_for(book, ground, left):
    """The rows for which the ground speaks, of those that are left."""
    return [row for row in left if ground_speaks(book.forum, ground, book.rows[row][0])]


def grades_in(book, numbers):
    """The grades of the rows with these numbers, ascending, each once."""
    return sorted(set([book.rows[row][1] for row in numbers]))


def has_both(book, numbers):
    """Whether there is a won and a lost row among those with these numbers."""
    return grades_in(book, numbers) == [0, 1]


def ranked_keeper(book):
    """A ranked judge that keeps the book or, if there is none, the greatest closed set."""
    grounds, rest = closing(book)
    if has_both(book, rest):
        return ClosedSet(rest)
    return RankedJudge(book.forum, grounds, max(grades_in(book, rest), default=0))


def greatest_closed_set(book):
    """The numbers of the rows in the greatest closed set, or the empty tuple."""
    _, rest = closing(book)
    return rest if has_both(book, rest) else ()


def single_keeper(book):
    """The first single judge that keeps the book or, if there is none, the failed steps."""
    check_yes_no(book)
    candidates = [SingleJudge(book.forum, step) for step in range(len(book.forum.steps))]
    breaks = [candidate.first_break(book) for candidate in candidates]
    if None in breaks:
        return candidates[breaks.index(None)]
    return FailedSteps(breaks)
