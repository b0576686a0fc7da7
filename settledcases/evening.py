"""Regradings that change every grade as little as possible (points 38 and 39)."""

from settledcases.book import floor_grade, quarrels
from settledcases.overruling import check_grades


def greatest_fall(book):
    """The greatest fall of the book, and the first quarrel that has it, or None."""
    odds = quarrels(book)
    fall = max([fall_of(book, pair) for pair in odds], default=0)
    greatest = [pair for pair in odds if fall_of(book, pair) == fall]
    return fall, greatest[0] if greatest else None


def fall_of(book, pair):
    """The grade of row low minus the grade of row high."""
    low, high = pair
    return book.rows[low][1] - book.rows[high][1]


def even_changes(book):
    """The even regrading, with one grade for each row."""
    fall, _ = greatest_fall(book)
    most = (fall + 1) // 2
    return tuple([max(floor_grade(book.rows, case) - most, 0) for case, _ in book])


def greatest_change(book, grades):
    """The greatest change of a grade of the book by these grades."""
    check_grades(book, grades)
    return max([abs(grade - old) for grade, (_, old) in zip(grades, book)], default=0)
