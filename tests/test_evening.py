"""Even regradings (points 38 and 39)."""

import unittest
from itertools import product

from settledcases.book import Book, quarrels
from settledcases.errors import NoGrade, NoRow
from settledcases.evening import even_changes, greatest_change, greatest_fall
from settledcases.forum import Forum
from settledcases.overruling import regraded
from tests.support import FORUMS, HUGE, all_quarrels, is_beneath, sample_books

AB = Forum("ab")
EXAMPLE = Book(AB, 3, [((0, 0), 3), ((1, 0), 1), ((1, 1), 2)])


class GreatestFallTest(unittest.TestCase):
    """Point 38."""

    def test_example(self):
        self.assertEqual(greatest_fall(EXAMPLE), (2, (0, 1)))

    def test_no_rows_and_no_quarrel(self):
        for top in (1, 2, 3, 4):
            self.assertEqual(greatest_fall(Book(AB, top)), (0, None))
            self.assertEqual(greatest_fall(Book(AB, top, [((1, 0), top), ((0, 0), 0), ((1, 0), top)])), (0, None))

    def test_several_quarrels_with_the_greatest_fall(self):
        rows = [((1, 1), 1), ((0, 0), 2), ((1, 0), 3), ((0, 0), 3), ((1, 0), 1)]
        # The falls are 1, 1, 2, 2, 2, 1 and 2.
        self.assertEqual(quarrels(Book(AB, 3, rows)), [(1, 0), (1, 4), (2, 0), (2, 4), (3, 0), (3, 1), (3, 4)])
        self.assertEqual(greatest_fall(Book(AB, 3, rows)), (2, (2, 0)))
        self.assertEqual(greatest_fall(Book(AB, 4, rows + [((1, 1), 0)])), (3, (2, 5)))

    def test_many_books(self):
        for book in sample_books(FORUMS, (1, 2, 3, 4), (2, 5, 10), 3):
            falls = {}
            for low, high in all_quarrels(book.rows):
                falls.setdefault(book.rows[low][1] - book.rows[high][1], []).append((low, high))
            fall = max(falls, default=0)
            self.assertEqual(greatest_fall(book), (fall, min(falls[fall]) if falls else None))


class EvenChangesTest(unittest.TestCase):
    """Point 39."""

    def test_example(self):
        self.assertEqual(even_changes(EXAMPLE), (2, 2, 2))
        self.assertEqual(quarrels(regraded(EXAMPLE, even_changes(EXAMPLE))), [])

    def test_no_rows(self):
        self.assertEqual(even_changes(Book(AB, 4)), ())

    def test_odd_and_even_falls(self):
        for top, expected in [(1, (0, 0)), (2, (1, 1)), (3, (1, 1)), (4, (2, 2))]:
            self.assertEqual(even_changes(Book(AB, top, [((0, 1), top), ((1, 1), 0)])), expected)

    def test_grades_do_not_fall_below_0(self):
        rows = [((1, 0), 3), ((1, 1), 0), ((0, 1), 1), ((0, 0), 0)]
        self.assertEqual(even_changes(Book(AB, 3, rows)), (1, 1, 0, 0))

    def test_no_regrading_does_better(self):
        for book in sample_books(FORUMS, (1, 2, 3, 4), (0, 1, 2, 3, 4), 3):
            cases = [case for case, _ in book.rows]
            old = [grade for _, grade in book.rows]
            most = {}
            for grades in product(range(book.top + 1), repeat=len(cases)):
                if not all_quarrels(list(zip(cases, grades))):
                    most[grades] = max([abs(grade - old[k]) for k, grade in enumerate(grades)], default=0)
            even = even_changes(book)
            half = (greatest_fall(book)[0] + 1) // 2
            self.assertEqual(most[even], min(most.values()))
            self.assertLessEqual(most[even], half)
            self.assertTrue(half == 0 or most[even] == half)

    def test_grades(self):
        for book in sample_books(FORUMS, (1, 2, 3, 4), (5, 10), 3):
            half = (greatest_fall(book)[0] + 1) // 2
            expected = [max([g for x, g in book.rows if is_beneath(x, case)]) - half for case, _ in book.rows]
            self.assertEqual(even_changes(book), tuple(max(grade, 0) for grade in expected))
            self.assertEqual(all_quarrels(regraded(book, even_changes(book)).rows), [])
            self.assertLessEqual(greatest_change(book, even_changes(book)), half)


class GreatestChangeTest(unittest.TestCase):
    def test_greatest_change(self):
        for grades, expected in [((3, 1, 2), 0), ([3, 1, 1], 1), ([0, 1, 2], 3), ([3, 3, 1], 2), ([2, 0, 3], 1)]:
            self.assertEqual(greatest_change(EXAMPLE, grades), expected)
        self.assertEqual(greatest_change(Book(AB), []), 0)

    def test_list_stays_as_it_is(self):
        grades = [0, 3, 2]
        self.assertEqual(greatest_change(EXAMPLE, grades), 3)
        self.assertEqual(grades, [0, 3, 2])

    def test_errors_in_order(self):
        for grades in [[], [1], [1, 1], [1, 1, 1, 1], (3, 1, 2, 0)]:
            with self.assertRaises(NoRow):
                greatest_change(EXAMPLE, grades)
        with self.assertRaises(NoRow):
            greatest_change(Book(AB), [0])
        for grades in [[-1, 0, 0], [0, 0, -1], [4, 0, 0], [0, 0, 4], [HUGE, 0, 0], [-1], [0, 0, 0, 4], [4, -1]]:
            with self.assertRaises(NoGrade):
                greatest_change(EXAMPLE, grades)
        with self.assertRaises(NoGrade):
            greatest_change(Book(AB), [2])
