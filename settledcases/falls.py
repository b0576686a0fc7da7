"""Which rows fall in every best regrading, in some, or in none (points 32 and 33)."""

from settledcases.book import quarrels
from settledcases.overruling import least_price, overruled, price_of, row_prices


def falls(book, prices=None):
    """For each row "always", "sometimes" or "never"."""
    low = overruled(book, prices)
    high = overruled(book, prices, high=True)
    # What falls in some best regrading falls in the least or in the greatest one,
    # and what falls in both of these falls in all.
    words = ("never", "sometimes", "always")
    return tuple([words[low.count(number) + high.count(number)] for number in range(len(book.rows))])


def overrulings(book, prices=None):
    """Yields the numbers of the rows that each best regrading changes, in ascending order."""
    least = least_price(book, prices)
    costs = row_prices(book, prices)
    odds = quarrels(book)
    choices = [()]
    for number in range(len(book.rows)):
        choices = choices + [chosen + (number,) for chosen in choices]
    cheapest = [chosen for chosen in choices if price_of(chosen, costs) == least]
    yield from sorted([chosen for chosen in cheapest if covers(chosen, odds)])


def covers(chosen, odds):
    """Whether at least one row of every quarrel is chosen."""
    return all([low in chosen or high in chosen for low, high in odds])


def safe_book(book, prices=None):
    """The book without the rows that fall always or sometimes."""
    words = falls(book, prices)
    return book - [number for number, word in enumerate(words) if word != "never"]
