"""Regradings of books with any top, and their prices (points 28, 34 and 35)."""

from settledcases.overruling import best_grades, check_grades, row_prices
from settledcases.thresholds import threshold_books


def least_changes(book, prices=None, *, high=False):
    """The grades of the rows in the least, or the greatest, best regrading."""
    # A regrading is best exactly if it is best at every threshold (point 35).
    grades = [best_grades(level, prices, high=high) for level in threshold_books(book)]
    return tuple([sum(column) for column in zip(*grades)])


def changes_price(book, grades, prices=None):
    """The sum of the prices of the rows times the changes of their grades."""
    check_grades(book, grades)
    costs = row_prices(book, prices)
    return sum([cost * abs(grade - old) for cost, grade, (_, old) in zip(costs, grades, book)])
