"""Least and greatest judges, deciding rows and the settled table (points 21 to 23)."""

import unittest

from settledcases.book import Book, bounds, settled
from settledcases.errors import AtOdds, NoCase
from settledcases.forum import Forum
from settledcases.judges import CeilingJudge, FloorJudge
from settledcases.settling import greatest_judge, least_judge, reasons, settled_table, unsettled
from tests.support import FORUMS, HUGE, all_cases, all_quarrels, is_beneath, quiet_books, rising_maps, sample_books

AB = Forum("ab")
SMALL = [Forum("a"), Forum("", "", (3,)), Forum("a", "m"), Forum("", "m", (2,))]
QUARREL = Book(AB, 2, [((1, 1), 1), ((0, 0), 0), ((0, 1), 2), ((1, 0), 2), ((1, 1), 0)])


class ExtremeJudgesTest(unittest.TestCase):
    """Point 21."""

    def test_example(self):
        book = Book(AB, 3, [((1, 0), 2), ((0, 0), 1)])
        least, greatest = least_judge(book), greatest_judge(book)
        self.assertIsInstance(least, FloorJudge)
        self.assertIsInstance(greatest, CeilingJudge)
        for judge in (least, greatest):
            self.assertEqual((judge.forum, judge.top, judge.rows), (book.forum, 3, book.rows))
        self.assertEqual(least.table(), (1, 1, 2, 2))
        self.assertEqual(greatest.table(), (1, 3, 2, 3))

    def test_no_rows(self):
        self.assertEqual(least_judge(Book(AB, 4)).table(), (0, 0, 0, 0))
        self.assertEqual(greatest_judge(Book(AB, 4)).table(), (4, 4, 4, 4))

    def test_all_judges_that_keep_a_book(self):
        for book in quiet_books(SMALL, (1, 2, 3), (0, 1, 2, 4), 6):
            keepers = [judge for judge in rising_maps(book.forum, book.top)
                       if all(judge[case] == grade for case, grade in book.rows)]
            least, greatest = least_judge(book), greatest_judge(book)
            for judge in (least, greatest):
                self.assertTrue(judge.keeps(book))
                self.assertIn(judge.table(), [tuple(keeper.values()) for keeper in keepers])
            for case in book.forum:
                grades = sorted({keeper[case] for keeper in keepers})
                self.assertEqual((grades[0], grades[-1]), (least(case), greatest(case)))
                self.assertEqual(settled(book, case), grades[0] if len(grades) == 1 else None)

    def test_a_quarrel(self):
        for asked in (least_judge, greatest_judge, settled_table, lambda book: list(unsettled(book))):
            with self.assertRaises(AtOdds) as caught:
                asked(QUARREL)
            self.assertEqual((caught.exception.low, caught.exception.high), (0, 4))


class ReasonsTest(unittest.TestCase):
    """Point 22."""

    def test_example(self):
        book = Book(AB, 2, [((0, 0), 0), ((0, 1), 1), ((1, 0), 1), ((1, 1), 2), ((0, 1), 1)])
        self.assertEqual(reasons(book, (0, 0)), (None, 0))
        self.assertEqual(reasons(book, (0, 1)), (1, 1))
        self.assertEqual(reasons(book, (1, 0)), (2, 2))
        self.assertEqual(reasons(book, (1, 1)), (3, None))
        self.assertEqual(reasons(Book(AB, 2), (1, 1)), (None, None))

    def test_none_although_a_row_gives_the_grade(self):
        book = Book(AB, 1, [((1, 0), 0), ((1, 1), 1)])
        self.assertEqual(reasons(book, (1, 0)), (None, 0))
        self.assertEqual(reasons(book, (1, 1)), (1, None))

    def test_with_a_quarrel(self):
        self.assertEqual(bounds(QUARREL, (1, 1)), (2, 0))
        self.assertEqual(reasons(QUARREL, (1, 1)), (2, 4))
        self.assertEqual(reasons(QUARREL, (0, 0)), (None, 1))
        self.assertEqual(reasons(QUARREL, (1, 0)), (3, 4))

    def test_many_books(self):
        for book in sample_books(FORUMS[:9], (1, 2, 3, 4), (0, 1, 4, 10), 3):
            for case in all_cases(book.forum):
                low, high = bounds(book, case)
                beneath = [k for k, (other, grade) in enumerate(book.rows) if grade == low and is_beneath(other, case)]
                above = [k for k, (other, grade) in enumerate(book.rows) if grade == high and is_beneath(case, other)]
                first = None if low == 0 else beneath[0]
                second = None if high == book.top else above[0]
                self.assertEqual(reasons(book, case), (first, second))

    def test_no_case(self):
        for book in (Book(AB), QUARREL):
            for wrong in [(), (0,), (0, 0, 0), (0, 2), (-1, 0), (HUGE, 1)]:
                with self.assertRaises(NoCase):
                    reasons(book, wrong)


class SettledTableTest(unittest.TestCase):
    """Point 23."""

    def test_example(self):
        book = Book(AB, 1, [((1, 0), 1), ((0, 0), 0)])
        self.assertEqual(settled_table(book), (0, None, 1, 1))
        self.assertEqual(list(unsettled(book)), [(0, 1)])
        self.assertEqual(settled_table(Book(AB)), (None, None, None, None))
        self.assertEqual(list(unsettled(Book(AB))), [(0, 0), (0, 1), (1, 0), (1, 1)])
        self.assertEqual(list(unsettled(Book(AB, 2, [((0, 0), 2), ((1, 1), 2)]))), [])

    def test_many_books(self):
        for book in quiet_books(FORUMS, (1, 2, 4), (0, 1, 2, 4), 6):
            table = settled_table(book)
            self.assertEqual(table, tuple(settled(book, case) for case in book.forum))
            open_cases = [case for case, grade in zip(book.forum, table) if grade is None]
            self.assertEqual(list(unsettled(book)), open_cases)
            turned = Book(book.forum, book.top, list(reversed(book.rows)))
            self.assertEqual(settled_table(turned), table)

    def test_one_more_decision(self):
        for book in quiet_books(FORUMS[:7], (1, 2), (0, 1, 2), 3):
            table = settled_table(book)
            for case in all_cases(book.forum):
                for grade in range(book.top + 1):
                    more = book.added(case, grade)
                    if not all_quarrels(more.rows):
                        for before, after in zip(table, settled_table(more)):
                            self.assertIn(before, (None, after))

    def test_the_generator_waits(self):
        waiting = unsettled(QUARREL)
        with self.assertRaises(AtOdds):
            next(waiting)
        waiting = unsettled(Book(AB))
        self.assertEqual([next(waiting), next(waiting)], [(0, 0), (0, 1)])
