"""Best regradings of yes-or-no books (points 28 and 31)."""

import unittest

from settledcases.book import Book, quarrels
from settledcases.errors import NoGrade, NoPrice, NoRow, NotYesNo
from settledcases.forum import Forum
from settledcases.overruling import apart, best_grades, least_price, overruled, regraded
from tests.support import HUGE, best_regradings, priced_books

AB = Forum("ab")
EXAMPLE = Book(AB, 1, [((1, 0), 1), ((1, 1), 0), ((0, 1), 1)])


class BestGradesTest(unittest.TestCase):
    """Point 31."""

    def test_example(self):
        self.assertEqual([best_grades(EXAMPLE), overruled(EXAMPLE), least_price(EXAMPLE)], [(1, 1, 1), (1,), 1])
        self.assertEqual(best_grades(EXAMPLE, [1, 2, 1]), (0, 0, 0))
        self.assertEqual(best_grades(EXAMPLE, [1, 2, 1], high=True), (1, 1, 1))
        self.assertEqual(overruled(EXAMPLE, [1, 2, 1]), (0, 2))
        self.assertEqual(overruled(EXAMPLE, [1, 2, 1], high=True), (1,))
        self.assertEqual(least_price(EXAMPLE, [1, 2, 1]), 2)
        self.assertEqual(least_price(book=EXAMPLE, prices=(1, 3, 1)), 2)
        self.assertEqual(overruled(EXAMPLE, (1, 3, 1)), (0, 2))

    def test_no_rows_and_no_quarrel(self):
        for book in [Book(AB), Book(AB, 1, [((1, 0), 1), ((0, 1), 0), ((1, 0), 1)])]:
            for high in (False, True):
                self.assertEqual(best_grades(book, high=high), tuple(grade for _, grade in book))
                self.assertEqual(overruled(book, high=high), ())
            self.assertEqual(least_price(book), 0)
            self.assertEqual(apart(book), [])

    def test_all_regradings(self):
        for book, prices in priced_books():
            price, best = best_regradings(book, prices)
            self.assertEqual(least_price(book, prices), price)
            for high, chosen in [(False, min), (True, max)]:
                grades = tuple(chosen(column) for column in zip(*best))
                self.assertIn(grades, best)
                self.assertEqual(best_grades(book, prices, high=high), grades)
                changed = tuple(k for k, (_, grade) in enumerate(book.rows) if grades[k] != grade)
                self.assertEqual(overruled(book, prices, high=high), changed)

    def test_numbers_are_no_truth_values(self):
        for grade in best_grades(EXAMPLE) + best_grades(EXAMPLE, [1, 2, 1]) + (least_price(EXAMPLE),):
            self.assertNotIsInstance(grade, bool)

    def test_ten_rows(self):
        rows = [((1, 0), 1)] * 4 + [((1, 1), 0)] * 6
        self.assertEqual(overruled(Book(AB, 1, rows)), (0, 1, 2, 3))
        self.assertEqual(least_price(Book(AB, 1, rows), [99] * 10), 396)


class ApartTest(unittest.TestCase):
    """Points 31 and 37."""

    def test_example(self):
        self.assertEqual(apart(EXAMPLE, [1, 2, 1]), [((0, 1), 1), ((2, 1), 1)])

    def test_many_books(self):
        for book, prices in priced_books():
            papers = apart(book, prices)
            self.assertIsInstance(papers, list)
            pairs = [pair for pair, _ in papers]
            self.assertEqual(pairs, sorted(set(pairs)))
            self.assertTrue(set(pairs) <= set(quarrels(book)))
            self.assertTrue(all(count >= 1 for _, count in papers))
            for row, limit in enumerate(prices or [1] * len(book.rows)):
                self.assertLessEqual(sum(count for pair, count in papers if row in pair), limit)
            self.assertEqual(sum(count for _, count in papers), least_price(book, prices))


class PricesTest(unittest.TestCase):
    """Point 28."""

    def test_no_prices(self):
        for prices in [[], [1, 1], [1, 1, 1, 1], [1, 0, 1], [1, 1, 100], [-1, 1, 1], [1, HUGE, 1], [1, 1, -HUGE], (1, 1, 0)]:
            for asked in (best_grades, overruled, least_price, apart):
                with self.assertRaises(NoPrice):
                    asked(EXAMPLE, prices)
        for asked in (best_grades, overruled, least_price, apart):
            with self.assertRaises(NoPrice):
                asked(Book(AB), [1])

    def test_least_and_greatest_prices(self):
        self.assertEqual(least_price(EXAMPLE, [1, 99, 1]), 2)
        self.assertEqual(least_price(EXAMPLE, [99, 1, 99]), 1)
        self.assertEqual(least_price(EXAMPLE, [99, 99, 99]), 99)
        self.assertEqual(least_price(Book(AB), []), 0)
        self.assertEqual(best_grades(Book(AB), ()), ())

    def test_prices_stay_as_they_are(self):
        prices = [1, 2, 1]
        for asked in (best_grades, overruled, least_price, apart):
            asked(EXAMPLE, prices)
        self.assertEqual(prices, [1, 2, 1])

    def test_other_tops_come_first(self):
        for prices in (None, [], [0]):
            for asked in (best_grades, overruled, least_price, apart):
                for top in (2, 4):
                    with self.assertRaises(NotYesNo):
                        asked(Book(AB, top), prices)


class RegradedTest(unittest.TestCase):
    def test_regraded(self):
        book = Book(AB, 3, [((1, 0), 3), ((1, 1), 0), ((1, 0), 3)])
        for grades in ([0, 1, 2], (0, 1, 2)):
            again = regraded(book, grades)
            self.assertEqual((again.forum.text, again.top), ("ab//", 3))
            self.assertEqual(again.rows, (((1, 0), 0), ((1, 1), 1), ((1, 0), 2)))
        self.assertEqual(quarrels(regraded(book, [3, 1, 0])), [(0, 1), (0, 2)])
        self.assertEqual(regraded(Book(AB), []).rows, ())
        self.assertEqual(book.rows[0], ((1, 0), 3))

    def test_errors_in_order(self):
        book = Book(AB, 2, [((1, 0), 2), ((1, 1), 0)])
        for grades in [[], [1], [1, 1, 1], [0, 2, 2, 2]]:
            with self.assertRaises(NoRow):
                regraded(book, grades)
        for grades in [[3, 0], [0, 3], [-1, 0], [HUGE, 1], [3], [0, 0, 3], [0, 0, -1]]:
            with self.assertRaises(NoGrade):
                regraded(book, grades)
