"""The teaching of a judge, and turned judges (points 84 and 85)."""

import unittest
from itertools import combinations

from settledcases.book import Book
from settledcases.errors import AtOdds, Bound, NoCase, NoJudge, NotYesNo, OtherForum
from settledcases.forum import Forum
from settledcases.judges import CeilingJudge, FloorJudge, Judge
from settledcases.kinds import SingleJudge
from settledcases.rising import TableJudge
from settledcases.teaching import teaching, turned_judge
from tests.support import FORUMS, HUGE, all_cases, all_quarrels, is_beneath, rising_maps, sample_books
from tests.test_learner import judges_of, left_by_hand

AB = Forum("ab")
ABC = Forum("abc")
SMALL = [forum for forum in FORUMS + [ABC] if forum.size <= 9]
NO_CASES = [(), (0,), (0, 0, 0), (2, 0), (0, -1), (HUGE, 0)]


def teaching_by_hand(book, judge):
    """The teaching of a judge, which is a dict, by the words of point 84."""
    cases = left_by_hand(book.forum, book.rows)
    won = [case for case in cases if judge[case] == 1]
    lost = [case for case in cases if judge[case] == 0]
    first = [(case, 1) for case in won if not any(other != case and is_beneath(other, case) for other in won)]
    return first + [(case, 0) for case in lost if not any(other != case and is_beneath(case, other) for other in lost)]


def decides_all(forum, rows, judge):
    """Whether these decisions settle every case as the judge, a dict, decides it."""
    return not left_by_hand(forum, rows) and all(judge[case] == grade for case, grade in rows)


class TeachingTest(unittest.TestCase):
    """Point 84."""

    def test_example(self):
        self.assertEqual(teaching(Book(AB), FloorJudge(AB, 1, [((1, 0), 1)])), [((1, 0), 1), ((0, 1), 0)])

    def test_order(self):
        judge = FloorJudge(ABC, 1, [((1, 1, 0), 1), ((0, 1, 1), 1)])
        self.assertEqual(teaching(Book(ABC), judge), [((0, 1, 1), 1), ((1, 1, 0), 1), ((0, 1, 0), 0), ((1, 0, 1), 0)])
        book = Book(ABC, 1, [((0, 1, 1), 1), ((1, 0, 1), 0)])
        self.assertEqual(teaching(book=book, judge=judge), [((1, 1, 0), 1), ((0, 1, 0), 0)])

    def test_nothing_to_teach(self):
        book = Book(AB, 1, [((0, 0), 1)])
        self.assertEqual(teaching(book, CeilingJudge(AB, 1, [])), [])

    def test_all_judges(self):
        for forum in SMALL:
            maps = list(rising_maps(forum, 1))
            for book in sample_books([forum], (1,), (0, 1, 2, 5), 2):
                for judge in maps if not all_quarrels(book.rows) else []:
                    if all(judge[case] == grade for case, grade in book.rows):
                        found = teaching(book, TableJudge(forum, 1, list(judge.values())))
                        self.assertEqual(found, teaching_by_hand(book, judge))
                        rows = list(book.rows)
                        self.assertTrue(decides_all(forum, rows + found, judge))
                        for left_out in range(len(found)):
                            self.assertFalse(decides_all(forum, rows + found[:left_out] + found[left_out + 1:], judge))

    def test_every_other_list_contains_it(self):
        for judge in rising_maps(AB, 1):
            for rows in ([], [((0, 1), judge[(0, 1)])]):
                found = teaching(Book(AB, 1, rows), TableJudge(AB, 1, list(judge.values())))
                for size in range(5):
                    for chosen in combinations(list(judge.items()), size):
                        if decides_all(AB, rows + list(chosen), judge):
                            self.assertLessEqual(set(found), set(chosen))

    def test_judges_of_every_kind(self):
        for forum in FORUMS:
            for judge in judges_of(forum):
                table = dict(zip(all_cases(forum), judge.table()))
                self.assertEqual(teaching(Book(forum), judge), teaching_by_hand(Book(forum), table))

    def test_new_lists(self):
        judge = SingleJudge(AB, 0)
        teaching(Book(AB), judge).append("more")
        self.assertEqual(teaching(Book(AB), judge), [((1, 0), 1), ((0, 1), 0)])

    def test_errors_in_order(self):
        quarrel = [((1, 0), 1), ((1, 1), 0)]
        zero = Judge(AB)
        for book, judge, error in [
            (Book(AB, 2), Judge(AB, 2), NotYesNo), (Book(AB, 3, quarrel), Judge(ABC), NotYesNo),
            (Book(AB, 2), zero, NotYesNo),
            (Book(AB, 1, quarrel), Judge(ABC), OtherForum), (Book(AB, 1, quarrel), Judge(AB, 2), OtherForum),
            (Book(AB), Judge(Forum("ba")), OtherForum), (Book(AB, 1, quarrel), zero, AtOdds),
            (Book(AB, 1, [((1, 1), 1)]), zero, Bound),
        ]:
            with self.assertRaises(error):
                teaching(book, judge)
        with self.assertRaises(Bound) as caught:
            teaching(Book(AB, 1, [((0, 0), 0), ((0, 1), 0), ((1, 0), 1), ((1, 1), 1)]), Judge(AB))
        self.assertEqual(caught.exception.row, 2)


class TurnedJudgeTest(unittest.TestCase):
    """Point 85."""

    def test_turned(self):
        judge = turned_judge(SingleJudge(AB, 0), (0, 1))
        self.assertIsInstance(judge, TableJudge)
        self.assertEqual((judge.grades, judge.top, judge.forum), ((0, 1, 1, 1), 1, AB))
        self.assertEqual(turned_judge(judge=SingleJudge(AB, 0), case=(1, 0)).grades, (0, 0, 0, 1))
        for wrong in [(0, 0), (1, 1)]:
            with self.assertRaises(NoJudge):
                turned_judge(SingleJudge(AB, 0), wrong)

    def test_each_case_of_small_forums(self):
        turned = 0
        for forum in SMALL:
            cases = all_cases(forum)
            tables = {tuple(judge.values()) for judge in rising_maps(forum, 1)}
            for table in tables:
                judge = TableJudge(forum, 1, table)
                for at, case in enumerate(cases):
                    other = table[:at] + (1 - table[at],) + table[at + 1:]
                    if other in tables:
                        found = turned_judge(judge, case)
                        self.assertEqual(found.table(), other)
                        self.assertEqual(turned_judge(found, case).table(), table)
                        self.assertEqual(found.parting(judge), case)
                        turned += 1
                    else:
                        with self.assertRaises(NoJudge):
                            turned_judge(judge, case)
                self.assertEqual(judge.table(), table)
        self.assertGreater(turned, 90)

    def test_errors_in_order(self):
        for top in (2, 3, 4):
            for case in [(0, 0)] + NO_CASES:
                with self.assertRaises(NotYesNo):
                    turned_judge(Judge(AB, top), case)
        for wrong in NO_CASES:
            with self.assertRaises(NoCase):
                turned_judge(Judge(AB), wrong)
        with self.assertRaises(NoJudge):
            turned_judge(Judge(AB), (0, 1))
        self.assertEqual(turned_judge(Judge(AB), (1, 1)).grades, (0, 0, 0, 1))
