"""Judges (point 14)."""

import unittest

from settledcases.book import Book
from settledcases.errors import NoCase, NoGrade, OtherForum
from settledcases.forum import Forum
from settledcases.judges import CeilingJudge, FloorJudge, Judge
from tests.support import FORUMS, HUGE, all_cases, is_beneath, sample_rows

AB = Forum("ab")


class JudgeTest(unittest.TestCase):
    def test_grades(self):
        judge = Judge(AB, 3)
        self.assertIs(judge.forum, AB)
        self.assertEqual(judge.top, 3)
        self.assertEqual(judge.table(), (0, 0, 0, 0))
        self.assertEqual([judge((1, 1)), judge.grade_of((1, 1)), judge(case=(0, 1))], [0, 0, 0])
        self.assertEqual(Judge(forum=AB).top, 1)

    def test_kinds(self):
        self.assertEqual((Judge.KIND, FloorJudge.KIND, CeilingJudge.KIND), ("judge", "rising", "rising"))
        self.assertTrue(issubclass(FloorJudge, Judge) and issubclass(CeilingJudge, Judge))
        for kind in (FloorJudge, CeilingJudge):
            self.assertIn("grade_of", vars(kind))
        for name in ("grade_of", "table", "first_break", "keeps", "parting"):
            self.assertIn(name, vars(Judge))

    def test_tops(self):
        for top in (1, 2, 3, 4):
            self.assertEqual(Judge(AB, top).top, top)
        for top in (0, 5, -1, HUGE, -HUGE):
            for making in (lambda: Judge(AB, top), lambda: FloorJudge(AB, top, []), lambda: CeilingJudge(AB, top, [])):
                with self.assertRaises(NoGrade):
                    making()

    def test_calling_with_no_case(self):
        for judge in (Judge(AB), FloorJudge(AB, 1, []), CeilingJudge(AB, 1, [])):
            for wrong in [(), (0,), (0, 0, 0), (2, 0), (0, -1), (HUGE, 0)]:
                with self.assertRaises(NoCase):
                    judge(wrong)


class FloorAndCeilingTest(unittest.TestCase):
    def test_no_rows(self):
        self.assertEqual(FloorJudge(AB, 4, []).table(), (0, 0, 0, 0))
        self.assertEqual(CeilingJudge(AB, 4, ()).table(), (4, 4, 4, 4))

    def test_examples(self):
        rows = [((0, 1), 1), ((1, 0), 2)]
        self.assertEqual(FloorJudge(AB, 3, rows).table(), (0, 1, 2, 2))
        self.assertEqual(CeilingJudge(AB, 3, rows).table(), (1, 1, 2, 3))

    def test_with_a_quarrel(self):
        rows = [((0, 0), 2), ((1, 1), 1), ((0, 1), 3)]
        self.assertEqual(FloorJudge(AB, 3, rows).table(), (2, 3, 2, 3))
        self.assertEqual(CeilingJudge(AB, 3, rows).table(), (1, 1, 1, 1))

    def test_fields(self):
        rows = [((0, 1), 1), ((1, 0), 0)]
        for kind in (FloorJudge, CeilingJudge):
            judge = kind(AB, 2, rows)
            self.assertEqual((judge.forum, judge.top, judge.rows), (AB, 2, tuple(rows)))
            judge = kind(rows=tuple(rows), top=2, forum=AB)
            self.assertEqual(judge.rows, tuple(rows))

    def test_rows_are_copied(self):
        for kind in (FloorJudge, CeilingJudge):
            rows = [((0, 1), 1)]
            judge = kind(AB, 1, rows)
            table = judge.table()
            rows[0] = ((1, 1), 0)
            rows.append(((0, 0), 1))
            self.assertEqual((judge.rows, judge.table()), ((((0, 1), 1),), table))

    def test_any_rows(self):
        for forum in FORUMS:
            for top in (1, 3):
                for count in (1, 2, 5, 11, 40):
                    rows = sample_rows(forum, top, count, 1)
                    floor, ceiling = FloorJudge(forum, top, rows), CeilingJudge(forum, top, rows)
                    self.assertEqual(len(floor.rows), count)
                    self.assertEqual(len(ceiling.rows), count)
                    for case in all_cases(forum):
                        beneath = [grade for other, grade in rows if is_beneath(other, case)]
                        above = [grade for other, grade in rows if is_beneath(case, other)]
                        self.assertEqual(floor(case), max(beneath + [0]))
                        self.assertEqual(ceiling(case), min(above + [top]))

    def test_errors_in_order(self):
        for kind in (FloorJudge, CeilingJudge):
            for grade in (-1, 2, HUGE):
                with self.assertRaises(NoGrade):
                    kind(AB, 1, [((0, 0), 1), ((1, 0), grade)])
            for case in [(1,), (2, 0), (0, 0, 0), (0, -1)]:
                with self.assertRaises(NoCase):
                    kind(AB, 1, [((0, 0), 1), (case, 0)])
                with self.assertRaises(NoCase):
                    kind(AB, 7, [((0, 0), 9), (case, 0)])


class KeepingTest(unittest.TestCase):
    def test_first_break(self):
        judge = FloorJudge(AB, 2, [((1, 0), 2)])
        self.assertIsNone(judge.first_break(Book(AB, 2)))
        self.assertIs(judge.keeps(Book(AB, 2)), True)
        book = Book(AB, 2, [((1, 1), 2), ((0, 1), 0), ((1, 0), 1), ((0, 0), 1)])
        self.assertEqual(judge.first_break(book), 2)
        self.assertIs(judge.keeps(book), False)
        self.assertIsNone(judge.first_break(book - [2, 3]))
        self.assertIs(judge.keeps(book - [2, 3]), True)
        self.assertEqual(judge.first_break(book - [0, 1, 2]), 0)
        self.assertIs(judge.keeps(book - [0, 1, 2]), False)

    def test_parting(self):
        floor, ceiling = FloorJudge(AB, 1, [((0, 1), 1)]), CeilingJudge(AB, 1, [((1, 0), 0)])
        self.assertIsNone(floor.parting(ceiling))
        self.assertEqual(floor.parting(Judge(AB)), (0, 1))
        self.assertEqual(Judge(AB).parting(floor), (0, 1))
        self.assertEqual(floor.parting(CeilingJudge(AB, 1, [])), (0, 0))
        self.assertEqual(floor.parting(FloorJudge(AB, 1, [((0, 1), 1), ((1, 0), 1)])), (1, 0))

    def test_other_forums_and_tops(self):
        judge = FloorJudge(AB, 1, [((0, 1), 1)])
        for forum, top in [(Forum("ba"), 1), (Forum("a", "b"), 1), (Forum("", "", (1, 1)), 1), (AB, 2)]:
            for asked in (judge.first_break, judge.keeps):
                with self.assertRaises(OtherForum):
                    asked(Book(forum, top))
            with self.assertRaises(OtherForum):
                judge.parting(Judge(forum, top))
        self.assertIs(judge.keeps(Book(Forum("ab"), 1, [((1, 1), 1)])), True)
        self.assertIsNone(judge.parting(FloorJudge(Forum("ab"), 1, judge.rows)))
