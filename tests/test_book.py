"""Decisions, books, quarrels, bounds and what a book settles (points 3, 4 and 10 to 13)."""

import unittest

from settledcases.book import Book, bounds, quarrels, settled
from settledcases.errors import AtOdds, NoCase, NoGrade, NoRow, OtherForum, TooLarge
from settledcases.forum import Forum
from tests.support import FORUMS, HUGE, all_cases, all_quarrels, is_beneath, sample_books

AB = Forum("ab")


class MakingTest(unittest.TestCase):
    """Point 10."""

    def test_fields(self):
        rows = [((1, 0), 2), ((0, 0), 0), ((1, 0), 2), ((1, 0), 1)]
        book = Book(AB, 2, rows)
        self.assertIs(book.forum, AB)
        self.assertEqual((book.top, book.rows), (2, tuple(rows)))
        self.assertEqual(list(book), rows)
        self.assertEqual((Book.ROWS, Book.TOPS), (10, 4))

    def test_defaults_and_keywords(self):
        self.assertEqual((Book(AB).top, Book(AB).rows), (1, ()))
        book = Book(rows=(((1, 1), 3),), top=3, forum=AB)
        self.assertEqual((book.top, book.rows), (3, (((1, 1), 3),)))

    def test_rows_are_copied(self):
        rows = [((1, 0), 1)]
        book = Book(AB, 1, rows)
        rows.append(((0, 0), 0))
        rows[0] = ((1, 1), 0)
        self.assertEqual(book.rows, (((1, 0), 1),))

    def test_numbers_of_rows(self):
        for count in (0, 1, 9, 10):
            self.assertEqual(len(Book(AB, 1, [((1, 0), 1)] * count).rows), count)
        for count in (11, 12, 100):
            with self.assertRaises(TooLarge):
                Book(AB, 1, [((1, 0), 1)] * count)

    def test_tops_and_grades(self):
        for top in (1, 2, 3, 4):
            for grade in range(top + 1):
                self.assertEqual(Book(AB, top, [((1, 0), grade)]).rows[0][1], grade)
            for grade in (-1, top + 1, HUGE, -HUGE):
                with self.assertRaises(NoGrade):
                    Book(AB, top, [((1, 1), 0), ((1, 0), grade)])
        for top in (0, 5, -1, HUGE, -HUGE):
            with self.assertRaises(NoGrade):
                Book(AB, top)

    def test_cases(self):
        for case in [(), (1,), (1, 0, 0), (2, 0), (0, -1), (HUGE, 0)]:
            with self.assertRaises(NoCase):
                Book(AB, 1, [((0, 0), 0), (case, 1)])

    def test_order_of_errors(self):
        many = [((0, 0), 0)] * 10
        with self.assertRaises(NoCase):
            Book(AB, 5, many + [((0, 0), 9), ((2, 0), 1)])
        with self.assertRaises(NoCase):
            Book(AB, 1, [((0, 0), 9), ((2, 0), 1)])
        with self.assertRaises(NoGrade):
            Book(AB, 1, many + [((0, 0), 2)])
        with self.assertRaises(NoGrade):
            Book(AB, 0, many + [((0, 0), 0)])

    def test_containing(self):
        book = Book(AB, 2, [((1, 0), 2)])
        self.assertIs(((1, 0), 2) in book, True)
        for row in [((1, 0), 1), ((0, 1), 2), ((1,), 2), ((9, 9), 9)]:
            self.assertIs(row in book, False)


class OneMoreTest(unittest.TestCase):
    """Point 10, and point 4 for added."""

    def test_added(self):
        book = Book(AB, 2, [((1, 0), 2)])
        more = book.added((1, 0), 2).added(grade=0, case=(1, 1))
        self.assertEqual(more.rows, (((1, 0), 2), ((1, 0), 2), ((1, 1), 0)))
        self.assertEqual((more.forum.text, more.top), ("ab//", 2))
        self.assertEqual(book.rows, (((1, 0), 2),))

    def test_errors_in_order(self):
        book = Book(AB, 1, [((1, 0), 1)] * 10)
        with self.assertRaises(NoCase):
            book.added((1, 0, 0), 2)
        with self.assertRaises(NoGrade):
            book.added((1, 0), 2)
        with self.assertRaises(NoGrade):
            book.added((1, 0), -1)
        with self.assertRaises(TooLarge):
            book.added((1, 0), 1)
        self.assertEqual(len(book.rows), 10)


class CombiningTest(unittest.TestCase):
    """Point 11."""

    def test_joining(self):
        a = Book(AB, 2, [((1, 0), 2), ((1, 0), 2), ((0, 0), 0)])
        b = Book(AB, 2, [((1, 1), 1), ((0, 0), 0), ((1, 1), 1), ((1, 0), 1)])
        self.assertEqual((a | b).rows, a.rows + (((1, 1), 1), ((1, 0), 1)))
        self.assertEqual((b | a).rows, b.rows + (((1, 0), 2),))
        self.assertEqual((a | a).rows, a.rows)
        self.assertEqual(((a | b).forum.text, (a | b).top), ("ab//", 2))
        self.assertEqual((len(a.rows), len(b.rows)), (3, 4))

    def test_joining_with_no_rows(self):
        a = Book(AB, 1, [((1, 0), 1)])
        self.assertEqual((a | Book(AB)).rows, a.rows)
        self.assertEqual((Book(AB) | a).rows, a.rows)

    def test_joining_equal_forums(self):
        a = Book(Forum("a", "m", (2,)), 3, [((1, 0, 2), 3)])
        b = Book(Forum("a", "m", [2]), 3, [((0, 0, 2), 1)])
        self.assertEqual((a | b).rows, (((1, 0, 2), 3), ((0, 0, 2), 1)))

    def test_joining_other_forums_and_tops(self):
        a = Book(AB)
        for other in [
            Book(Forum("ba")), Book(Forum("a", "b")), Book(Forum("a", "", (1,))), Book(Forum("abc")), Book(AB, 2),
            Book(Forum("", "", (1, 1))),
        ]:
            with self.assertRaises(OtherForum):
                a | other
            with self.assertRaises(OtherForum):
                other | a

    def test_joining_to_ten_and_eleven_rows(self):
        cases = list(Forum("abcd"))
        a = Book(Forum("abcd"), 1, [(case, 1) for case in cases[:6]])
        b = Book(Forum("abcd"), 1, [(case, 1) for case in cases[4:10]])
        c = Book(Forum("abcd"), 1, [(case, 1) for case in cases[4:11]])
        self.assertEqual([case for case, _ in a | b], cases[:10])
        with self.assertRaises(TooLarge):
            a | c
        with self.assertRaises(OtherForum):
            Book(AB, 1, [((1, 0), 1)] * 10) | Book(AB, 2, [((0, 1), 1)])

    def test_removing(self):
        rows = (((1, 0), 2), ((0, 0), 0), ((1, 0), 2), ((1, 1), 1))
        book = Book(AB, 2, rows)
        self.assertEqual((book - [0]).rows, rows[1:])
        self.assertEqual((book - [3, 1, 3]).rows, (rows[0], rows[2]))
        self.assertEqual((book - (0, 1, 2, 3, 0)).rows, ())
        self.assertEqual((book - []).rows, rows)
        self.assertEqual(((book - [0]).forum.text, (book - [0]).top), ("ab//", 2))
        self.assertEqual(book.rows, rows)

    def test_removing_no_row(self):
        book = Book(AB, 1, [((1, 0), 1), ((0, 0), 0)])
        for numbers in [[2], [-1], [0, 1, 2], [-2, 0], [HUGE], [-HUGE]]:
            with self.assertRaises(NoRow):
                book - numbers
        with self.assertRaises(NoRow):
            Book(AB) - [0]

    def test_arguments_stay_as_they_are(self):
        numbers = [1, 0, 1]
        Book(AB, 1, [((1, 0), 1), ((0, 0), 0)]) - numbers
        self.assertEqual(numbers, [1, 0, 1])

    def test_thresholds(self):
        book = Book(AB, 3, [((1, 0), 3), ((0, 0), 0), ((1, 1), 1), ((0, 1), 2), ((1, 0), 3)])
        for threshold, grades in [(1, [1, 0, 1, 1, 1]), (2, [1, 0, 0, 1, 1]), (3, [1, 0, 0, 0, 1])]:
            level = book.at(threshold)
            self.assertEqual(level.top, 1)
            self.assertEqual(list(level), [(case, grade) for (case, _), grade in zip(book, grades)])
            self.assertTrue(all(isinstance(grade, int) and not isinstance(grade, bool) for _, grade in level))
        for threshold in (0, 4, -1, HUGE):
            with self.assertRaises(NoGrade):
                book.at(threshold)
        self.assertEqual(Book(AB, 1, [((1, 0), 1)]).at(1).rows, (((1, 0), 1),))


class QuarrelsTest(unittest.TestCase):
    """Point 12."""

    def test_examples(self):
        self.assertEqual(quarrels(Book(AB)), [])
        self.assertEqual(quarrels(Book(AB, 1, [((1, 1), 0), ((1, 0), 1)])), [(1, 0)])
        self.assertEqual(quarrels(Book(AB, 1, [((1, 1), 1), ((1, 0), 0)])), [])
        self.assertEqual(quarrels(Book(AB, 1, [((0, 1), 1), ((1, 0), 0)])), [])

    def test_one_case_with_two_grades(self):
        self.assertEqual(quarrels(Book(AB, 4, [((1, 0), 3), ((1, 0), 4)])), [(1, 0)])
        self.assertEqual(quarrels(Book(AB, 4, [((1, 0), 3), ((1, 0), 3)])), [])

    def test_repeated_rows(self):
        rows = [((1, 0), 1), ((1, 1), 0), ((1, 0), 1), ((1, 1), 0)]
        self.assertEqual(quarrels(Book(AB, 1, rows)), [(0, 1), (0, 3), (2, 1), (2, 3)])

    def test_many_books(self):
        for book in sample_books(FORUMS, (1, 2, 4), (0, 1, 3, 10), 4):
            self.assertEqual(quarrels(book), all_quarrels(book.rows))

    def test_lists_are_new(self):
        book = Book(AB, 1, [((1, 0), 1), ((1, 1), 0)])
        quarrels(book).clear()
        self.assertEqual(quarrels(book), [(0, 1)])


class BoundsTest(unittest.TestCase):
    """Point 13."""

    def test_no_rows(self):
        self.assertEqual(bounds(Book(AB, 3), (0, 1)), (0, 3))

    def test_example(self):
        book = Book(AB, 3, [((1, 0), 1), ((1, 1), 2)])
        self.assertEqual([bounds(book, case) for case in AB], [(0, 1), (0, 2), (1, 1), (2, 2)])

    def test_a_quarrel(self):
        book = Book(AB, 1, [((0, 0), 1), ((1, 1), 0)])
        self.assertEqual(bounds(book, (1, 0)), (1, 0))
        book = Book(AB, 4, [((1, 0), 3), ((1, 0), 1)])
        self.assertEqual([bounds(book, (1, 0)), bounds(book, (1, 1)), bounds(book, (0, 0))], [(3, 1), (3, 4), (0, 1)])

    def test_many_books(self):
        for book in sample_books(FORUMS, (1, 2, 4), (0, 1, 3, 10), 3):
            for case in all_cases(book.forum):
                beneath = [grade for other, grade in book.rows if is_beneath(other, case)]
                above = [grade for other, grade in book.rows if is_beneath(case, other)]
                expected = (max(beneath + [0]), min(above + [book.top]))
                self.assertEqual(bounds(book, case), expected)
                if not all_quarrels(book.rows):
                    grade = expected[0] if expected[0] == expected[1] else None
                    self.assertEqual(settled(book, case), grade)

    def test_settled(self):
        book = Book(AB, 2, [((1, 0), 2), ((0, 1), 0)])
        self.assertEqual([settled(book, case) for case in AB], [0, 0, 2, 2])
        self.assertEqual([settled(Book(AB, 2, [((1, 0), 1)]), case) for case in AB], [None, None, 1, None])

    def test_settled_with_a_quarrel(self):
        book = Book(AB, 1, [((0, 1), 1), ((1, 1), 0), ((1, 0), 1), ((0, 1), 0)])
        for case in AB:
            with self.assertRaises(AtOdds) as caught:
                settled(book, case)
            self.assertEqual((caught.exception.low, caught.exception.high), (0, 1))

    def test_the_first_quarrel_by_pairs(self):
        book = Book(AB, 1, [((1, 1), 0), ((0, 1), 0), ((0, 0), 1), ((0, 1), 1)])
        with self.assertRaises(AtOdds) as caught:
            settled(book, (0, 0))
        self.assertEqual((caught.exception.low, caught.exception.high), (2, 0))

    def test_errors_in_order(self):
        book = Book(AB, 1, [((0, 1), 1), ((1, 1), 0)])
        for wrong in [(), (0, 0, 0), (0, 2), (-1, 0), (HUGE, 0)]:
            for asked in (bounds, settled):
                with self.assertRaises(NoCase):
                    asked(book, wrong)
                with self.assertRaises(NoCase):
                    asked(Book(AB), wrong)
