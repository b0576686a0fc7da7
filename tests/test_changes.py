"""Best regradings of books with any top (points 28, 34 and 35)."""

import unittest

from settledcases.book import Book, quarrels
from settledcases.changes import changes_price, least_changes
from settledcases.errors import NoGrade, NoPrice, NoRow
from settledcases.forum import Forum
from settledcases.overruling import best_grades, least_price, regraded
from settledcases.thresholds import threshold_books
from tests.support import FORUMS, HUGE, best_regradings, plain_prices, sample_books

AB = Forum("ab")
EXAMPLE = Book(AB, 3, [((0, 0), 3), ((1, 0), 1), ((1, 1), 2)])


def award_books(counts):
    """Books with a top above 1 and few rows, with prices and without."""
    for book in sample_books(FORUMS[:9], (2, 3, 4), counts, 3):
        yield book, None
        yield book, plain_prices(len(book.rows), 3)


class LeastChangesTest(unittest.TestCase):
    """Points 34 and 35."""

    def test_examples(self):
        self.assertEqual(least_changes(EXAMPLE), (1, 1, 2))
        self.assertEqual(least_changes(EXAMPLE, high=True), (2, 2, 2))
        self.assertEqual(least_changes(EXAMPLE, [3, 1, 1]), (3, 3, 3))
        self.assertEqual(least_changes(EXAMPLE, (1, 2, 9), high=True), (1, 1, 2))

    def test_no_rows_and_no_quarrel(self):
        for book in [Book(AB, 4), Book(AB, 4, [((1, 0), 3), ((0, 0), 0), ((1, 1), 3)])]:
            for high in (False, True):
                self.assertEqual(least_changes(book, high=high), tuple(grade for _, grade in book))

    def test_yes_or_no_books(self):
        for book in sample_books(FORUMS[:9], (1,), (0, 2, 5), 3):
            for high in (False, True):
                self.assertEqual(least_changes(book, high=high), best_grades(book, high=high))

    def test_all_regradings(self):
        for book, prices in award_books((0, 1, 2, 4)):
            price, best = best_regradings(book, prices)
            for high, chosen in [(False, min), (True, max)]:
                grades = tuple(chosen(column) for column in zip(*best))
                self.assertIn(grades, best)
                self.assertEqual(least_changes(book, prices, high=high), grades)
                self.assertEqual(changes_price(book, grades, prices), price)

    def test_thresholds(self):
        for book, prices in award_books((3, 10)):
            levels = threshold_books(book)
            for high in (False, True):
                grades = least_changes(book, prices, high=high)
                self.assertEqual(quarrels(regraded(book, grades)), [])
                self.assertEqual(changes_price(book, grades, prices), sum(least_price(level, prices) for level in levels))
                for threshold, level in enumerate(levels, 1):
                    at_level = tuple(int(grade >= threshold) for grade in grades)
                    self.assertEqual(best_grades(level, prices, high=high), at_level)

    def test_wrong_prices(self):
        for prices in [[], [1, 1], [1, 1, 1, 1], [1, 0, 1], [1, 1, 100], [HUGE, 1, 1], (-1, 1, 1)]:
            with self.assertRaises(NoPrice):
                least_changes(EXAMPLE, prices)
            with self.assertRaises(NoPrice):
                least_changes(EXAMPLE, prices, high=True)
        with self.assertRaises(NoPrice):
            least_changes(Book(AB, 2), [1])


class PriceTest(unittest.TestCase):
    """Point 34."""

    def test_examples(self):
        self.assertEqual(changes_price(EXAMPLE, [1, 1, 2]), 2)
        self.assertEqual(changes_price(EXAMPLE, (3, 1, 2)), 0)
        self.assertEqual(changes_price(EXAMPLE, [0, 3, 0]), 7)
        self.assertEqual(changes_price(EXAMPLE, [0, 3, 0], [10, 99, 1]), 230)
        self.assertEqual(changes_price(grades=[3, 0, 2], prices=(7, 8, 9), book=EXAMPLE), 8)
        self.assertEqual(changes_price(Book(AB, 2), []), 0)

    def test_errors_in_order(self):
        for grades in [[4, 1, 2], [3, -1, 2], [3, 1, HUGE], [4], [0, 0, 0, 4], [-HUGE, 0, 0]]:
            for prices in (None, [], [0, 1, 1]):
                with self.assertRaises(NoGrade):
                    changes_price(EXAMPLE, grades, prices)
        for grades in [[], [3, 1], [3, 1, 2, 2]]:
            for prices in (None, [], [0, 1, 1]):
                with self.assertRaises(NoRow):
                    changes_price(EXAMPLE, grades, prices)
        for prices in [[], [1, 1], [1, 1, 1, 1], [0, 1, 1], [1, 1, 100], [1, -1, 1], (1, HUGE, 1)]:
            with self.assertRaises(NoPrice):
                changes_price(EXAMPLE, [3, 1, 2], prices)

    def test_arguments_stay_as_they_are(self):
        grades, prices = [1, 1, 2], [1, 2, 1]
        changes_price(EXAMPLE, grades, prices)
        least_changes(EXAMPLE, prices)
        self.assertEqual((grades, prices), ([1, 1, 2], [1, 2, 1]))
