"""Rising tables and table judges (points 24 and 25)."""

import unittest
from itertools import product

from settledcases.book import Book
from settledcases.errors import NoGrade, NoJudge, NotYesNo, TooLarge
from settledcases.forum import Forum
from settledcases.judges import Judge
from settledcases.rising import TableJudge, is_rising, rising_tables
from tests.support import HUGE, all_cases, is_beneath, rising_maps, sample_books

AB = Forum("ab")
SMALL = [Forum("a"), Forum("", "", (3,)), AB, Forum("", "m", (2,)), Forum("a", "b", (1,)), Forum("", "", (2, 2))]


class RisingTest(unittest.TestCase):
    """Point 24."""

    def test_examples(self):
        for table in [(0, 0, 0, 0), (0, 1, 0, 1), [0, 1, 2, 2], (-5, -5, -2, HUGE), (3, 3, 3, 3), (0, 2, 1, 2)]:
            self.assertIs(is_rising(AB, table), True)
        for table in [(1, 0, 1, 1), (0, 1, 0, 0), (0, 0, 1, 0), [0, 1, 2, 1], (0, 0, 0, -1), (1, 1, 1, 0), (HUGE, 1, 1, 1)]:
            self.assertIs(is_rising(AB, table), False)

    def test_cases_far_apart(self):
        self.assertIs(is_rising(Forum("", "", (3,)), (1, 1, 1, 0)), False)
        self.assertIs(is_rising(Forum("", "", (3,)), (0, 0, 1, 1)), True)

    def test_all_tables(self):
        for forum in SMALL[:5]:
            tables = {tuple(judge.values()) for judge in rising_maps(forum, 1)}
            for table in product((0, 1), repeat=forum.size):
                self.assertIs(is_rising(forum, table), table in tables)

    def test_arguments_stay_as_they_are(self):
        table = [0, 1, 0, 1]
        is_rising(AB, table)
        TableJudge(AB, 1, table)
        self.assertEqual(table, [0, 1, 0, 1])


class TableJudgeTest(unittest.TestCase):
    """Point 24."""

    def test_grades(self):
        judge = TableJudge(Forum("", "", (2, 1)), 4, [0, 1, 1, 2, 1, 4])
        self.assertEqual((judge.grades, judge.top, judge.KIND), ((0, 1, 1, 2, 1, 4), 4, "rising"))
        self.assertEqual([judge((0, 1)), judge((1, 1)), judge((2, 0)), judge((2, 1))], [1, 2, 1, 4])
        self.assertEqual(judge.table(), judge.grades)
        self.assertIsInstance(judge, Judge)
        self.assertEqual(TableJudge.KIND, "rising")
        self.assertIn("grade_of", vars(TableJudge))
        self.assertEqual(TableJudge(table=(0, 1), top=1, forum=Forum("a")).grades, (0, 1))

    def test_the_table_is_copied(self):
        table = [0, 1, 0, 1]
        judge = TableJudge(AB, 1, table)
        table[0] = 1
        table.append(1)
        self.assertEqual((judge.grades, judge.table()), ((0, 1, 0, 1), (0, 1, 0, 1)))

    def test_no_tables(self):
        for table in [
            [], [0, 0, 0], [0, 0, 0, 0, 0], [1, 0, 1, 1], [0, 1, 1, 0], [0, 0, 0, 3], [-1, 0, 0, 0], [0, 0, 0, HUGE],
            [-HUGE, 0, 0, 0], [3, 3, 3, 3],
        ]:
            with self.assertRaises(NoJudge):
                TableJudge(AB, 2, table)

    def test_no_tops(self):
        for top in (0, 5, -1, HUGE):
            for table in [(0, 0, 0, 0), (1, 0, 9)]:
                with self.assertRaises(NoGrade):
                    TableJudge(AB, top, table)
        for top in (1, 2, 3, 4):
            self.assertEqual(TableJudge(AB, top, (0, 0, top, top)).table(), (0, 0, top, top))


class RisingTablesTest(unittest.TestCase):
    """Point 25."""

    def test_examples(self):
        self.assertEqual(list(rising_tables(Book(Forum("a")))), [(0, 0), (0, 1), (1, 1)])
        self.assertEqual(list(rising_tables(Book(AB, 1, [((1, 0), 1)]))), [(0, 0, 1, 1), (0, 1, 1, 1), (1, 1, 1, 1)])

    def test_many_books(self):
        for book in sample_books(SMALL, (1,), (0, 1, 2, 5), 6):
            tables = [tuple(judge.values()) for judge in rising_maps(book.forum, 1)
                      if all(judge[case] == grade for case, grade in book.rows)]
            self.assertEqual(list(rising_tables(book)), tables)

    def test_a_quarrel(self):
        self.assertEqual(list(rising_tables(Book(AB, 1, [((1, 0), 1), ((1, 1), 0)]))), [])
        self.assertEqual(list(rising_tables(Book(AB, 1, [((1, 0), 1), ((1, 0), 0)]))), [])
        self.assertEqual(list(rising_tables(Book(AB, 1, [((0, 0), 1), ((1, 1), 0)]))), [])

    def test_sixteen_cases(self):
        self.assertEqual(len(list(rising_tables(Book(Forum("abcd"))))), 168)
        for forum in (Forum("abcd"), Forum("a", "", (1, 3))):
            tables = list(rising_tables(Book(forum, 1, [(forum.limits, 1)])))
            self.assertEqual(tables, sorted(set(tables)))
            self.assertTrue(all(is_rising(forum, table) and table[-1] == 1 for table in tables))

    def test_more_than_sixteen_cases(self):
        for forum in [Forum("a", "", (2, 2)), Forum("ab", "m", (2,)), Forum("abcde")]:
            rows = [(forum.weakest_case, 1), (forum.strongest_case, 0)]
            for book in (Book(forum), Book(forum, 1, rows)):
                with self.assertRaises(TooLarge):
                    list(rising_tables(book))

    def test_other_tops(self):
        for top in (2, 3, 4):
            with self.assertRaises(NotYesNo):
                list(rising_tables(Book(AB, top)))
            with self.assertRaises(NotYesNo):
                list(rising_tables(Book(Forum("abcde"), top)))

    def test_the_generator_waits(self):
        waiting = rising_tables(Book(AB, 2))
        with self.assertRaises(NotYesNo):
            next(waiting)

    def test_judges_of_the_tables(self):
        for forum in (AB, Forum("a", "b", (1,))):
            book = Book(forum, 1, [(forum.limits, 1)])
            for table in rising_tables(book):
                judge = TableJudge(forum, 1, table)
                self.assertTrue(judge.keeps(book))
                for x in all_cases(forum):
                    for y in all_cases(forum):
                        self.assertFalse(is_beneath(x, y) and judge(x) > judge(y))
