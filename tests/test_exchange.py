"""Exchanged forums, cases, books and judges, and renamed forums (points 16 to 18)."""

import unittest

from settledcases.book import Book, bounds, quarrels
from settledcases.errors import NoCase, NoForum
from settledcases.exchange import ExchangedJudge, exchanged_book, exchanged_case, exchanged_forum, renamed_forum
from settledcases.forum import Forum
from settledcases.judges import CeilingJudge, FloorJudge, Judge
from settledcases.order import at_least
from tests.support import FORUMS, HUGE, sample_books


def present(forum, case):
    """The reasons that are present."""
    fields = forum.word(case).split("/")
    return sorted(fields[0] + fields[1])


class CasesTest(unittest.TestCase):
    """Point 16."""

    def test_forum(self):
        other = exchanged_forum(Forum("ab", "m", (1, 1)))
        self.assertEqual((other.pro, other.con, other.tops), ("m", "ab", (1, 1)))
        self.assertEqual(exchanged_forum(Forum("", "m", (1, 3))).text, "m//13")

    def test_case(self):
        self.assertEqual(exchanged_case(Forum("ab", "m", (2,)), (1, 0, 1, 2)), (0, 0, 1, 0))
        self.assertEqual(exchanged_case(Forum("a", "mn", (1, 1)), (0, 0, 1, 1, 0)), (1, 0, 1, 0, 1))
        self.assertEqual(exchanged_case(Forum("a", "m", (2, 1)), (1, 0, 2, 0)), (1, 0, 0, 1))
        self.assertEqual(exchanged_case(Forum("ab"), (0, 1)), (1, 0))

    def test_all_cases(self):
        for forum in FORUMS:
            other = exchanged_forum(forum)
            again = exchanged_forum(other)
            self.assertEqual((again.pro, again.con, again.tops), (forum.pro, forum.con, forum.tops))
            swapped = {case: exchanged_case(forum, case) for case in forum}
            self.assertEqual(sorted(swapped.values()), list(other))
            for case in forum:
                self.assertEqual(exchanged_case(other, swapped[case]), case)
                self.assertEqual(present(forum, case), present(other, swapped[case]))
                for case2 in forum:
                    self.assertEqual(at_least(case, case2), at_least(swapped[case2], swapped[case]))

    def test_no_case(self):
        forum = Forum("a", "m", (2,))
        for wrong in [(), (0, 0), (0, 0, 3), (2, 0, 0), (0, 0, 0, 0), (0, 0, HUGE)]:
            with self.assertRaises(NoCase):
                exchanged_case(forum, wrong)


class BooksTest(unittest.TestCase):
    """Point 17."""

    def test_example(self):
        book = exchanged_book(Book(Forum("a", "m", (2,)), 3, [((1, 0, 2), 3), ((0, 0, 0), 1), ((1, 0, 2), 3)]))
        self.assertEqual((book.forum.text, book.top), ("m/a/2", 3))
        self.assertEqual(book.rows, (((1, 0, 0), 0), ((1, 1, 2), 2), ((1, 0, 0), 0)))

    def test_many_books(self):
        for book in sample_books(FORUMS, (1, 2, 4), (0, 2, 10), 3):
            other = exchanged_book(book)
            self.assertEqual(exchanged_book(other).rows, book.rows)
            self.assertEqual(quarrels(other), sorted([(high, low) for low, high in quarrels(book)]))
            for case in book.forum:
                low, high = bounds(book, case)
                swapped = exchanged_case(book.forum, case)
                self.assertEqual(bounds(other, swapped), (book.top - high, book.top - low))


class JudgesTest(unittest.TestCase):
    """Point 17."""

    def test_grades(self):
        forum = Forum("a", "m", (2,))
        for judge in [FloorJudge(forum, 3, [((1, 0, 1), 2), ((0, 1, 0), 1)]), CeilingJudge(forum, 3, []), Judge(forum, 3)]:
            other = ExchangedJudge(judge)
            self.assertEqual((other.forum.text, other.top, other.KIND), ("m/a/2", 3, "exchanged"))
            for case in forum:
                self.assertEqual(other(exchanged_case(forum, case)), 3 - judge(case))
            self.assertEqual(ExchangedJudge(other).table(), judge.table())
            self.assertEqual(ExchangedJudge(judge=other).forum.text, forum.text)

    def test_class(self):
        self.assertTrue(issubclass(ExchangedJudge, Judge))
        self.assertEqual(ExchangedJudge.KIND, "exchanged")
        self.assertIn("grade_of", vars(ExchangedJudge))

    def test_no_case(self):
        judge = ExchangedJudge(Judge(Forum("a", "", (2,))))
        self.assertEqual(judge((0, 2)), 1)
        with self.assertRaises(NoCase):
            judge((0, 3))

    def test_keeping(self):
        for book in sample_books(FORUMS, (1, 3), (3,), 3):
            judge = FloorJudge(book.forum, book.top, book.rows)
            self.assertEqual(ExchangedJudge(judge).first_break(exchanged_book(book)), judge.first_break(book))


class RenamingTest(unittest.TestCase):
    """Point 18."""

    def test_renamed(self):
        forum = renamed_forum(Forum("ab", "m", (2,)), "zax")
        self.assertEqual((forum.pro, forum.con, forum.tops), ("za", "x", (2,)))
        self.assertEqual(renamed_forum(Forum("ab"), "ba").text, "ba//")
        self.assertEqual(renamed_forum(Forum("", "", (2, 3)), "").text, "//23")
        self.assertEqual(renamed_forum(letters="cd", forum=Forum("", "ab")).text, "/cd/")

    def test_same_steps_and_cases(self):
        for forum in FORUMS:
            other = renamed_forum(forum, "vwxyz"[:len(forum.pro + forum.con)])
            self.assertEqual((other.limits, other.steps, list(other)), (forum.limits, forum.steps, list(forum)))

    def test_no_renaming(self):
        for letters in ["", "a", "ab", "abcd", "abb", "aba", "abA", "ab1", "ab ", "a/b", "ab\n", "ABC", "abcdef"]:
            with self.assertRaises(NoForum):
                renamed_forum(Forum("ab", "m", (1,)), letters)
        with self.assertRaises(NoForum):
            renamed_forum(Forum("", "", (2,)), "a")
