"""Forums, books and plain counting that several tests use."""

import random
from itertools import product

from settledcases.book import Book
from settledcases.forum import Forum

# A number whose figures Python refuses to write out.
HUGE = 10 ** 5000

FORUMS = [
    Forum("a"),
    Forum("", "m"),
    Forum("", "", (1,)),
    Forum("", "", (3,)),
    Forum("ab"),
    Forum("a", "m", (2,)),
    Forum("b", "", (1, 2)),
    Forum("", "zx", (3,)),
    Forum("", "", (2, 3)),
    Forum("ab", "m", (2,)),
    Forum("abcd"),
    Forum("acb", "ed"),
]


def is_beneath(low, high):
    """Whether the case low is beneath the case high, by counting."""
    return len([place for place in range(len(low)) if low[place] > high[place]]) == 0


def all_cases(forum):
    """All cases, ascending, by counting."""
    return list(product(*[range(limit + 1) for limit in forum.limits]))


def all_quarrels(rows):
    """All quarrels of a list of decisions, ascending."""
    found = []
    for low, (low_case, low_grade) in enumerate(rows):
        for high, (high_case, high_grade) in enumerate(rows):
            if is_beneath(low_case, high_case) and low_grade > high_grade:
                found.append((low, high))
    return found


def rising_maps(forum, top):
    """All judges as dicts from cases to grades: all rising ways of giving grades."""
    cases = all_cases(forum)
    for grades in product(range(top + 1), repeat=len(cases)):
        judge = dict(zip(cases, grades))
        if all(judge[x] <= judge[y] for x in cases for y in cases if is_beneath(x, y)):
            yield judge


def sample_rows(forum, top, count, seed):
    """A list of decisions, always the same one for the same arguments."""
    source = random.Random(f"{forum.text} {top} {count} {seed}")
    cases = all_cases(forum)
    return [(source.choice(cases), source.randint(0, top)) for _ in range(count)]


def sample_books(forums, tops, counts, seeds):
    """Books of all these forums, tops and numbers of rows."""
    for forum in forums:
        for top in tops:
            for count in counts:
                for seed in range(seeds):
                    yield Book(forum, top, sample_rows(forum, top, count, seed))


def quiet_books(forums, tops, counts, seeds):
    """Those of the sample books that have no quarrel."""
    for book in sample_books(forums, tops, counts, seeds):
        if not all_quarrels(book.rows):
            yield book


def plain_prices(count, seed):
    """A list of prices, always the same one for the same arguments."""
    source = random.Random(f"prices {count} {seed}")
    return [source.choice([1, 1, 2, 3, 99]) for _ in range(count)]


def best_regradings(book, prices):
    """The least price and all best regradings, by going through all regradings."""
    cases = [case for case, _ in book.rows]
    old = [grade for _, grade in book.rows]
    prices = prices or [1] * len(cases)
    found = {}
    for grades in product(range(book.top + 1), repeat=len(cases)):
        if not all_quarrels(list(zip(cases, grades))):
            price = sum(prices[k] * abs(grades[k] - old[k]) for k in range(len(cases)))
            found.setdefault(price, []).append(grades)
    return min(found), found[min(found)]


def priced_books():
    """Yes-or-no books with few rows, with prices and without."""
    for book in sample_books(FORUMS[:9], (1,), (0, 1, 2, 4, 6), 3):
        yield book, None
        for seed in (1, 2):
            yield book, plain_prices(len(book.rows), seed)
