"""Threshold books, stacked books and the papers of awards (points 11, 36 and 37)."""

import unittest

from settledcases.book import Book, quarrels
from settledcases.changes import changes_price, least_changes
from settledcases.errors import NoCase, NoGrade, NoPrice, NoRow, NotYesNo, OtherForum
from settledcases.forum import Forum
from settledcases.thresholds import award_papers, stacked, threshold_books
from tests.support import FORUMS, HUGE, plain_prices, sample_books

AB = Forum("ab")
BA = Forum("ba")


def yes_no(*grades, cases=((0, 0), (0, 1), (1, 0), (1, 1)), forum=AB):
    """A yes-or-no book with these grades for the first of these cases."""
    return Book(forum, 1, list(zip(cases, grades)))


class ThresholdsTest(unittest.TestCase):
    """Points 11 and 36."""

    def test_threshold_books(self):
        book = Book(AB, 3, [((1, 0), 3), ((0, 0), 0), ((1, 1), 1)])
        books = threshold_books(book)
        self.assertIsInstance(books, list)
        self.assertEqual([level.top for level in books], [1, 1, 1])
        self.assertEqual([[grade for _, grade in level] for level in books], [[1, 0, 1], [1, 0, 0], [1, 0, 0]])
        self.assertEqual([case for case, _ in books[2]], [(1, 0), (0, 0), (1, 1)])

    def test_stacking_gives_the_book_back(self):
        for book in sample_books(FORUMS, (1, 2, 3, 4), (0, 1, 4, 10), 3):
            again = stacked(threshold_books(book))
            self.assertEqual((again.forum.text, again.top, again.rows), (book.forum.text, book.top, book.rows))

    def test_stacked(self):
        book = stacked((yes_no(1, 1, 0), yes_no(1, 0, 0)))
        self.assertEqual((book.top, book.rows), (2, (((0, 0), 2), ((0, 1), 1), ((1, 0), 0))))
        self.assertEqual(stacked([yes_no(1, 0)]).rows, yes_no(1, 0).rows)
        self.assertEqual(stacked([yes_no(), yes_no()]).rows, ())
        self.assertEqual(stacked([yes_no(1), yes_no(1, forum=Forum("ab"))]).top, 2)

    def test_numbers_of_books(self):
        for count in (1, 2, 3, 4):
            self.assertEqual(stacked([yes_no(1)] * count).rows, (((0, 0), count),))
        for count in (0, 5, 6):
            with self.assertRaises(NoGrade):
                stacked([yes_no(1)] * count)

    def test_each_error(self):
        swapped = ((0, 1), (0, 0))
        for books, error in [
            ([Book(AB, 2)], NotYesNo),
            ([yes_no(), Book(AB, 4)], NotYesNo),
            ([yes_no(), yes_no(forum=BA)], OtherForum),
            ([yes_no(), yes_no(), yes_no(forum=Forum("a", "b"))], OtherForum),
            ([yes_no(1), yes_no(1, cases=swapped)], NoCase),
            ([yes_no(0, 0), yes_no(0, 0, cases=((0, 0), (1, 1)))], NoCase),
            ([yes_no(0), yes_no(1)], NoGrade),
            ([yes_no(1, 0), yes_no(1, 0), yes_no(1, 1)], NoGrade),
            ([yes_no(1, 0), yes_no(0, 0), yes_no(1, 0)], NoGrade),
            ([yes_no(1), yes_no(1, 0)], NoRow),
            ([yes_no(1, 0), yes_no(1)], NoRow),
            ([yes_no(1), yes_no(1), yes_no()], NoRow),
        ]:
            with self.assertRaises(error):
                stacked(books)

    def test_rows_that_the_first_book_does_not_have(self):
        other = ((0, 0), (1, 1))
        with self.assertRaises(NoCase):
            stacked([yes_no(0), yes_no(0, 0), yes_no(0, 0, cases=other)])
        with self.assertRaises(NoGrade):
            stacked([yes_no(0), yes_no(0, 0), yes_no(0, 1)])
        with self.assertRaises(NoGrade):
            stacked([yes_no(0, 0), yes_no(0), yes_no(0, 1)])
        with self.assertRaises(NoRow):
            stacked([yes_no(0), yes_no(0, 1), yes_no(0, 0)])

    def test_errors_in_order(self):
        swapped = ((0, 1), (0, 0))
        for books, error in [
            ([yes_no(), yes_no(forum=BA), Book(AB, 2)], NotYesNo),
            ([yes_no()] * 5 + [Book(BA, 2)], NotYesNo),
            ([yes_no(0), yes_no(1, cases=swapped), yes_no(forum=BA)], OtherForum),
            ([yes_no(forum=BA)] + [yes_no()] * 5, OtherForum),
            ([yes_no(0), yes_no(1), yes_no(0, cases=swapped)], NoCase),
            ([yes_no(0)] * 5 + [yes_no(0, 1, cases=swapped)], NoCase),
            ([yes_no(0)] * 5 + [yes_no(0, 1)], NoGrade),
            ([yes_no(0), yes_no(1, 1)], NoGrade),
        ]:
            with self.assertRaises(error):
                stacked(books)

    def test_arguments_stay_as_they_are(self):
        books = [yes_no(1), yes_no(0)]
        copy = list(books)
        stacked(books)
        self.assertEqual(books, copy)


class PapersTest(unittest.TestCase):
    """Point 37."""

    def test_example(self):
        book = Book(AB, 3, [((0, 0), 3), ((1, 0), 1), ((1, 1), 2)])
        self.assertEqual(award_papers(book), [[], [((0, 1), 1)], award_papers(book)[2]])
        self.assertEqual(award_papers(book, [3, 1, 1]), [[], [((0, 1), 1)], [((0, 1), 1), ((0, 2), 1)]])
        self.assertEqual(award_papers(Book(AB, 4)), [[], [], [], []])
        self.assertEqual(award_papers(Book(AB, 2), prices=()), [[], []])

    def test_many_books(self):
        for book in sample_books(FORUMS[:9], (1, 2, 3, 4), (0, 1, 4, 8), 3):
            for prices in (None, plain_prices(len(book.rows), 4)):
                papers = award_papers(book, prices)
                self.assertEqual(len(papers), book.top)
                for level, paper in zip(threshold_books(book), papers):
                    pairs = [pair for pair, _ in paper]
                    self.assertEqual(pairs, sorted(set(pairs)))
                    self.assertTrue(set(pairs) <= set(quarrels(level)))
                    self.assertTrue(all(count >= 1 for _, count in paper))
                    for row, limit in enumerate(prices or [1] * len(book.rows)):
                        self.assertLessEqual(sum(count for pair, count in paper if row in pair), limit)
                total = sum(count for paper in papers for _, count in paper)
                self.assertEqual(total, changes_price(book, least_changes(book, prices), prices))

    def test_wrong_prices(self):
        book = Book(AB, 2, [((0, 0), 1)])
        for prices in [[], [1, 1], [0], [100], [-1], [HUGE]]:
            with self.assertRaises(NoPrice):
                award_papers(book, prices)
        with self.assertRaises(NoPrice):
            award_papers(Book(AB), [1])
