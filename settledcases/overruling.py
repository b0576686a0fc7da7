"""Which rows of a yes-or-no book should fall so that no quarrel is left (points 28 and 31)."""

from settledcases.book import Book, check_yes_no, quarrels
from settledcases.errors import NoGrade, NoPrice, NoRow
from settledcases.web import check_prices, least_cover, most_apart


def row_prices(book, prices):
    """The prices of the rows of the book. Raises NoPrice."""
    if prices is None:
        return [1] * len(book.rows)
    check_prices(prices)
    if len(prices) != len(book.rows):
        raise NoPrice("there is not one price for each row")
    return list(prices)


def best_grades(book, prices=None, *, high=False):
    """The grades of the rows in the least, or the greatest, best regrading."""
    changed = overruled(book, prices, high=high)
    return tuple([1 - grade if number in changed else grade for number, (_, grade) in enumerate(book)])


def overruled(book, prices=None, *, high=False):
    """The numbers of the rows that the regrading of best_grades changes, ascending."""
    check_yes_no(book)
    costs = row_prices(book, prices)
    # In the web of the quarrels every row stands on both sides. A won row is only
    # joined as a left, and a lost row only as a right, so no row is chosen twice.
    won, lost = least_cover(costs, costs, quarrels(book), high=high)
    return tuple(sorted(won + lost))


def least_price(book, prices=None):
    """The price of the best regradings."""
    changed = overruled(book, prices)
    costs = row_prices(book, prices)
    return price_of(changed, costs)


def price_of(chosen, costs):
    """The sum of the prices of the chosen rows."""
    return sum([costs[number] for number in chosen])


def apart(book, prices=None):
    """Quarrels with numbers that show that no regrading is cheaper than the best ones."""
    check_yes_no(book)
    costs = row_prices(book, prices)
    return most_apart(costs, costs, quarrels(book))


def regraded(book, grades):
    """The book with these grades in place of its own."""
    check_grades(book, grades)
    return Book(book.forum, book.top, [(case, grade) for (case, _), grade in zip(book, grades)])


def check_grades(book, grades):
    """Raise NoGrade or NoRow if these are not grades for the rows of the book."""
    if any([not 0 <= grade <= book.top for grade in grades]):
        raise NoGrade("a grade is out of range")
    if len(grades) != len(book.rows):
        raise NoRow("there is not one grade for each row")
