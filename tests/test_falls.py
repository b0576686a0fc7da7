"""Rows that fall always, sometimes or never (points 32 and 33)."""

import unittest

from settledcases.book import Book, quarrels
from settledcases.errors import NoPrice, NotYesNo
from settledcases.falls import falls, overrulings, safe_book
from settledcases.forum import Forum
from tests.support import best_regradings, priced_books

AB = Forum("ab")
EXAMPLE = Book(AB, 1, [((1, 0), 1), ((1, 1), 0), ((0, 1), 1)])


class FallsTest(unittest.TestCase):
    """Point 32."""

    def test_examples(self):
        self.assertEqual(falls(EXAMPLE), ("never", "always", "never"))
        self.assertEqual(falls(EXAMPLE, [1, 2, 1]), ("sometimes", "sometimes", "sometimes"))
        self.assertEqual(falls(EXAMPLE, (1, 3, 1)), ("always", "never", "always"))
        self.assertEqual(falls(Book(AB)), ())

    def test_all_three_at_once(self):
        rows = [((1, 0, 0), 1), ((1, 0, 0), 0), ((0, 1, 0), 1), ((0, 1, 0), 0), ((0, 0, 1), 0)]
        self.assertEqual(falls(Book(Forum("abc"), 1, rows), [1, 1, 1, 2, 1]),
                         ("sometimes", "sometimes", "always", "never", "never"))
        rows = [(case, 1 - grade) for case, grade in rows]
        self.assertEqual(falls(Book(Forum("abc"), 1, rows), [1, 1, 1, 2, 1]),
                         ("sometimes", "sometimes", "always", "never", "never"))

    def test_all_regradings(self):
        for book, prices in priced_books():
            _, best = best_regradings(book, prices)
            words = []
            for number, (_, grade) in enumerate(book.rows):
                changes = [grades[number] != grade for grades in best]
                words.append("always" if all(changes) else "sometimes" if any(changes) else "never")
            self.assertEqual(falls(book, prices), tuple(words))


class OverrulingsTest(unittest.TestCase):
    """Point 31."""

    def test_examples(self):
        self.assertEqual(list(overrulings(EXAMPLE)), [(1,)])
        self.assertEqual(list(overrulings(EXAMPLE, [1, 2, 1])), [(0, 2), (1,)])
        self.assertEqual(list(overrulings(EXAMPLE, prices=(1, 2, 1))), [(0, 2), (1,)])

    def test_no_quarrel(self):
        self.assertEqual(list(overrulings(Book(AB))), [()])
        self.assertEqual(list(overrulings(Book(AB, 1, [((1, 0), 1), ((0, 0), 0)]))), [()])

    def test_all_regradings(self):
        for book, prices in priced_books():
            _, best = best_regradings(book, prices)
            changed = [tuple(k for k, (_, grade) in enumerate(book.rows) if grades[k] != grade) for grades in best]
            self.assertEqual(list(overrulings(book, prices)), sorted(changed))

    def test_ten_rows(self):
        rows = [((1, 0), 1), ((1, 0), 0)] * 5
        numbers = list(overrulings(Book(AB, 1, rows)))
        self.assertEqual(numbers, [(0, 2, 4, 6, 8), (1, 3, 5, 7, 9)])


class SafeBookTest(unittest.TestCase):
    """Point 33."""

    def test_examples(self):
        self.assertEqual(safe_book(EXAMPLE).rows, (((1, 0), 1), ((0, 1), 1)))
        self.assertEqual(safe_book(EXAMPLE, [1, 2, 1]).rows, ())
        self.assertEqual(safe_book(EXAMPLE, (1, 3, 1)).rows, (((1, 1), 0),))
        quiet = Book(AB, 1, [((1, 0), 1), ((0, 0), 0), ((1, 0), 1)])
        self.assertEqual(safe_book(quiet).rows, quiet.rows)
        self.assertEqual(safe_book(quiet).forum.text, "ab//")

    def test_many_books(self):
        for book, prices in priced_books():
            safe = safe_book(book, prices)
            self.assertIsInstance(safe, Book)
            self.assertEqual(quarrels(safe), [])
            kept = tuple(row for row, word in zip(book.rows, falls(book, prices)) if word == "never")
            self.assertEqual(safe.rows, kept)


class ErrorsTest(unittest.TestCase):
    """Points 4 and 28."""

    def test_wrong_prices(self):
        for prices in [[], [1, 1], [1, 1, 1, 1], [0, 1, 1], [1, 1, 100], (1, -1, 1)]:
            for asked in (falls, safe_book, lambda book, prices: list(overrulings(book, prices))):
                with self.assertRaises(NoPrice):
                    asked(EXAMPLE, prices)

    def test_other_tops_come_first(self):
        for prices in (None, [5]):
            for asked in (falls, safe_book, lambda book, prices: list(overrulings(book, prices))):
                with self.assertRaises(NotYesNo):
                    asked(Book(AB, 2), prices)

    def test_the_generator_waits(self):
        for book, prices, error in [(Book(AB, 2), None, NotYesNo), (EXAMPLE, [1], NoPrice)]:
            waiting = overrulings(book, prices)
            with self.assertRaises(error):
                next(waiting)

    def test_prices_stay_as_they_are(self):
        prices = [1, 2, 1]
        falls(EXAMPLE, prices)
        safe_book(EXAMPLE, prices)
        list(overrulings(EXAMPLE, prices))
        self.assertEqual(prices, [1, 2, 1])
