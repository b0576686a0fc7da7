"""The least book and the spare rows (point 26)."""

import unittest
from itertools import combinations

from settledcases.book import Book, bounds
from settledcases.errors import AtOdds, OtherForum
from settledcases.forum import Forum
from settledcases.leastbook import least_book, settles_same, spare_rows
from tests.support import FORUMS, quiet_books

AB = Forum("ab")
QUARREL = Book(AB, 1, [((1, 0), 1), ((0, 0), 1), ((1, 0), 0)])


def all_bounds(book):
    return [bounds(book, case) for case in book.forum]


class LeastBookTest(unittest.TestCase):
    def test_yes_or_no(self):
        rows = [((0, 0), 0), ((1, 1), 1), ((1, 0), 1), ((0, 1), 0), ((1, 0), 1)]
        least = least_book(Book(AB, 1, rows))
        self.assertIsInstance(least, Book)
        self.assertEqual((least.forum.text, least.top), ("ab//", 1))
        self.assertEqual(least.rows, (((1, 0), 1), ((0, 1), 0)))
        self.assertEqual(spare_rows(Book(AB, 1, rows)), (0, 1, 4))

    def test_weakest_and_strongest_in_between(self):
        forum = Forum("", "", (3,))
        rows = [((3,), 1), ((0,), 1), ((2,), 1), ((1,), 1), ((0,), 1)]
        least = least_book(Book(forum, 2, rows))
        self.assertEqual(least.rows, (((0,), 1), ((3,), 1)))
        self.assertEqual(spare_rows(Book(forum, 2, rows)), (2, 3, 4))

    def test_a_case_that_is_weakest_and_strongest(self):
        self.assertEqual(least_book(Book(AB, 2, [((1, 0), 1), ((0, 1), 1)])).rows, (((0, 1), 1), ((1, 0), 1)))

    def test_order_of_the_rows(self):
        rows = [((0, 0), 0), ((0, 1), 1), ((1, 0), 1), ((1, 1), 3), ((0, 1), 1)]
        least = least_book(Book(AB, 3, rows))
        self.assertEqual(least.rows, (((1, 1), 3), ((0, 1), 1), ((1, 0), 1), ((0, 0), 0)))

    def test_top_and_bottom(self):
        self.assertEqual(least_book(Book(AB, 4, [((0, 1), 4), ((1, 1), 4)])).rows, (((0, 1), 4),))
        self.assertEqual(least_book(Book(AB, 4, [((0, 1), 0), ((1, 1), 0)])).rows, (((1, 1), 0),))
        self.assertEqual(least_book(Book(AB, 4)).rows, ())
        self.assertEqual(spare_rows(Book(AB, 4)), ())

    def test_every_choice_of_rows(self):
        for book in quiet_books(FORUMS[:9], (1, 2, 3), (0, 2, 4, 6), 4):
            least = least_book(book)
            self.assertTrue(settles_same(book, least))
            self.assertEqual(all_bounds(least), all_bounds(book))
            self.assertEqual(len(set(least.rows)), len(least.rows))
            self.assertEqual(list(least.rows), sorted(sorted(least.rows), key=lambda row: -row[1]))
            self.assertTrue(set(least.rows) <= set(book.rows))
            for count in range(len(book.rows) + 1):
                for rows in combinations(book.rows, count):
                    if all_bounds(Book(book.forum, book.top, rows)) == all_bounds(book):
                        self.assertTrue(set(least.rows) <= set(rows))

    def test_spare_rows(self):
        for book in quiet_books(FORUMS, (1, 2, 3), (0, 2, 4, 6, 10), 5):
            least, seen, spare = least_book(book).rows, [], []
            for number, row in enumerate(book.rows):
                if row not in least or row in seen:
                    spare.append(number)
                seen.append(row)
            self.assertEqual(spare_rows(book), tuple(spare))
            self.assertEqual(sorted((book - spare).rows), sorted(least))

    def test_a_quarrel(self):
        for asked in (least_book, spare_rows):
            with self.assertRaises(AtOdds) as caught:
                asked(QUARREL)
            self.assertEqual((caught.exception.low, caught.exception.high), (0, 2))


class SettlesSameTest(unittest.TestCase):
    def test_examples(self):
        a = Book(AB, 1, [((1, 0), 1), ((1, 1), 1)])
        self.assertIs(settles_same(a, Book(AB, 1, [((1, 0), 1)])), True)
        self.assertIs(settles_same(a, Book(AB, 1, [((1, 1), 1)])), False)
        self.assertIs(settles_same(a, Book(AB)), False)
        self.assertIs(settles_same(Book(Forum("ab"), 3), Book(AB, 3)), True)

    def test_bounds_not_only_settled_cases(self):
        # Neither book settles a case, but the bounds differ.
        a = Book(Forum("", "", (3,)), 2, [((1,), 1)])
        b = Book(Forum("", "", (3,)), 2, [((1,), 1), ((2,), 1)])
        self.assertIs(settles_same(a, b), False)
        self.assertIs(settles_same(a, Book(a.forum, 2, [((2,), 1), ((1,), 1), ((1,), 1)])), False)
        self.assertIs(settles_same(b, Book(a.forum, 2, [((2,), 1), ((1,), 1), ((1,), 1)])), True)

    def test_other_forums_and_tops(self):
        for a, b in [(Book(AB), Book(Forum("ba"))), (Book(AB), Book(AB, 2)), (QUARREL, Book(Forum("abc"))), (QUARREL, Book(AB, 2))]:
            with self.assertRaises(OtherForum):
                settles_same(a, b)
            with self.assertRaises(OtherForum):
                settles_same(b, a)

    def test_quarrels(self):
        other = Book(AB, 1, [((1, 1), 0), ((1, 1), 0), ((0, 1), 1)])
        for a, b, pair in [
            (QUARREL, Book(AB), (0, 2)), (Book(AB), QUARREL, (0, 2)), (QUARREL, other, (0, 2)), (other, QUARREL, (2, 0)),
            (QUARREL, QUARREL, (0, 2)),
        ]:
            with self.assertRaises(AtOdds) as caught:
                settles_same(a, b)
            self.assertEqual((caught.exception.low, caught.exception.high), pair)
