"""Climbing judges, descending papers, and the narrowest kind of a judge (points 56 and 57)."""

import unittest
from itertools import combinations, product

from settledcases.book import Book
from settledcases.climbing import climb, descend, rung_of
from settledcases.errors import NoRung, NotYesNo, TooLarge
from settledcases.exchange import ExchangedJudge
from settledcases.forum import Forum
from settledcases.judges import CeilingJudge, FloorJudge, Judge
from settledcases.kinds import KINDS, RankedJudge, SingleJudge, WeighingJudge
from settledcases.order import weakest
from settledcases.papers import Balance, ClosedSet, FailedSteps, Paper, Quarrel
from settledcases.rising import TableJudge
from tests.support import FORUMS, all_cases, all_quarrels, rising_maps, sample_books
from tests.test_closing import ranked_judges
from tests.test_kinds import reaches
from tests.test_ladder import tables_of
from tests.test_papers import SQUARE, balances, is_closed_set, is_failing

AB = Forum("ab")
ABC = Forum("abc")
SMALL = [Forum("a"), ABC, Forum("a", "m", (1,)), Forum("", "", (3,)), Forum("a", "", (2,)), Forum("", "", (1, 2))]


class ClimbTest(unittest.TestCase):
    """Point 56."""

    def test_single_judges(self):
        for forum in FORUMS:
            for step in range(len(forum.steps)):
                judge = climb(SingleJudge(forum, step))
                self.assertIsInstance(judge, RankedJudge)
                self.assertEqual((judge.forum, judge.grounds, judge.default), (forum, ((step, 1),), 0))
                self.assertEqual(judge.table(), SingleJudge(forum, step).table())

    def test_ranked_judges(self):
        for grounds, default, weights, bar in [
            ([], 0, (0, 0, 0), 1), ([], 1, (0, 0, 0), 0), ([(1, 1)], 0, (0, 1, 0), 1), ([(1, 1)], 1, (0, 1, 0), 0),
            ([(1, 0)], 1, (0, 1, 0), 1), ([(1, 0)], 0, (0, 1, 0), 2), ([(2, 0), (0, 1)], 0, (1, 0, 2), 3),
            ([(2, 1), (0, 0)], 1, (1, 0, 2), 1), ([(1, 0), (2, 0), (0, 1)], 0, (1, 4, 2), 7),
            ([(0, 0), (1, 1), (2, 0)], 1, (4, 2, 1), 5),
        ]:
            judge = climb(RankedJudge(ABC, grounds, default))
            self.assertIsInstance(judge, WeighingJudge)
            self.assertEqual((judge.forum, judge.weights, judge.bar), (ABC, weights, bar))

    def test_all_ranked_judges(self):
        for forum in SMALL + [Forum("abcd"), Forum("", "", (3, 1))]:
            for judge in ranked_judges(forum):
                self.assertEqual(climb(judge).table(), judge.table())
        five = RankedJudge(Forum("abcde"), [(4, 0), (2, 1), (0, 0), (1, 0), (3, 1)], 1)
        self.assertEqual((climb(five).weights, climb(five).bar), ((4, 2, 8, 1, 16), 22))
        self.assertEqual(climb(five).table(), five.table())

    def test_weighing_judges(self):
        for weights, bar, rows in [
            ([1, 2, 3], 3, (((0, 0, 1), 1), ((1, 1, 0), 1))), ([0, 0, 0], 0, (((0, 0, 0), 1),)), ([0, 0, 0], 1, ()),
            ([1, 2, 3], -5, (((0, 0, 0), 1),)), ([1, 2, 3], 7, ()), ([1, 2, 3], 6, (((1, 1, 1), 1),)),
            ([0, 5, 5], 5, (((0, 0, 1), 1), ((0, 1, 0), 1))),
        ]:
            judge = climb(WeighingJudge(ABC, weights, bar))
            self.assertIsInstance(judge, FloorJudge)
            self.assertEqual((judge.forum, judge.top, judge.rows), (ABC, 1, rows))
        for forum in FORUMS:
            for bar in (-1, 0, 1, 3, 5, 9):
                judge = WeighingJudge(forum, [2, 3, 1, 1, 4][:len(forum.steps)], bar)
                self.assertEqual(climb(judge).table(), judge.table())
                won = [case for case in all_cases(forum) if judge(case) == 1]
                self.assertEqual(climb(judge).rows, tuple((case, 1) for case in weakest(won)))

    def test_no_rung(self):
        book = Book(AB, 1, [((1, 0), 1)])
        for judge in [
            Judge(AB), Judge(AB, 3), FloorJudge(AB, 1, book.rows), CeilingJudge(AB, 1, book.rows), FloorJudge(AB, 2, []),
            TableJudge(AB, 1, [0, 0, 0, 1]), ExchangedJudge(SingleJudge(AB, 0)), climb(WeighingJudge(AB, [1, 1], 1)),
        ]:
            with self.assertRaises(NoRung):
                climb(judge)


class DescendTest(unittest.TestCase):
    """Point 57."""

    def test_quarrels(self):
        book = Book(ABC, 1, [((1, 1, 0), 0), ((1, 0, 0), 1), ((0, 0, 1), 0), ((1, 1, 1), 0)])
        for low, high, counts in [(1, 0, ((0, 1), (1, 1))), (1, 3, ((1, 1), (3, 1)))]:
            paper = descend(Quarrel(low, high), book)
            self.assertIsInstance(paper, Balance)
            self.assertEqual(paper.counts, counts)
            self.assertTrue(paper.holds(book))

    def test_balances(self):
        paper = descend(Balance([(0, 2), (1, 2), (2, 2), (3, 2)]), SQUARE)
        self.assertIsInstance(paper, ClosedSet)
        self.assertEqual(paper.rows, (0, 1, 2, 3))
        self.assertTrue(paper.holds(SQUARE))

    def test_closed_sets(self):
        paper = descend(ClosedSet([0, 1, 2, 3]), SQUARE)
        self.assertIsInstance(paper, FailedSteps)
        self.assertEqual(paper.rows, (1, 1, 0, 0))
        self.assertTrue(paper.holds(SQUARE))
        # Row 0 fails at the first step, too, but it is not in the closed set.
        book = Book(AB, 1, [((0, 1), 1), ((1, 1), 1), ((1, 0), 1), ((1, 0), 0)])
        self.assertEqual(descend(ClosedSet([2, 3]), book).rows, (3, 2))

    def test_all_papers(self):
        """Whatever holds descends to what holds, and names no further rows."""
        many = [0, 0, 0]
        for book in sample_books(FORUMS, (1,), (2, 3, 4), 5):
            numbers = range(len(book.rows))
            for low, high in all_quarrels(book.rows):
                paper = descend(Quarrel(low, high), book)
                self.assertTrue(balances(book, paper.counts))
                self.assertEqual(set(paper.row_numbers()), {low, high})
                many[0] += 1
            for times in product(range(3), repeat=len(book.rows)):
                counts = [(row, count) for row, count in enumerate(times) if count]
                if balances(book, counts):
                    paper = descend(Balance(counts), book)
                    self.assertTrue(is_closed_set(book, paper.rows))
                    self.assertEqual(paper.rows, tuple(row for row, _ in counts))
                    many[1] += 1
            for chosen in [chosen for k in range(2, 5) for chosen in combinations(numbers, k)]:
                if is_closed_set(book, chosen):
                    paper = descend(ClosedSet(chosen), book)
                    self.assertTrue(is_failing(book, paper.rows))
                    self.assertLessEqual(set(paper.rows), set(chosen))
                    for step, row in enumerate(paper.rows):
                        failing = [k for k in chosen if reaches(book.forum, book.rows[k][0], step) != bool(book.rows[k][1])]
                        self.assertEqual(row, failing[0])
                    many[2] += 1
        self.assertGreater(min(many), 30)

    def test_no_rung(self):
        with self.assertRaises(NoRung):
            descend(FailedSteps([1, 1, 0, 0]), SQUARE)
        with self.assertRaises(NoRung):
            descend(FailedSteps([]), Book(ABC))

    def test_other_tops(self):
        for top in (2, 3, 4):
            book = Book(ABC, top, [((1, 0, 0), 1), ((1, 0, 0), 0)])
            for paper in [Quarrel(0, 1), Balance([(0, 1), (1, 1)]), ClosedSet([0, 1]), FailedSteps([1, 0, 0]), Paper()]:
                with self.assertRaises(NotYesNo):
                    descend(paper, book)


class RungOfTest(unittest.TestCase):
    """The kinds of point 46, of which each judge has a narrowest one."""

    def test_judges_of_every_kind(self):
        for judge, kind in [
            (SingleJudge(ABC, 1), "single"), (RankedJudge(ABC, [(1, 1)], 0), "single"), (WeighingJudge(ABC, [1, 9, 1], 9), "single"),
            (FloorJudge(ABC, 1, [((0, 1, 0), 1)]), "single"), (CeilingJudge(ABC, 1, [((1, 0, 1), 0)]), "single"),
            (TableJudge(ABC, 1, [0, 0, 1, 1, 0, 0, 1, 1]), "single"), (ExchangedJudge(SingleJudge(ABC, 1)), "single"),
            (Judge(ABC), "ranked"), (RankedJudge(ABC, [], 1), "ranked"), (WeighingJudge(ABC, [2, 1, 1], 3), "ranked"),
            (FloorJudge(ABC, 1, [((0, 1, 1), 1)]), "ranked"), (WeighingJudge(ABC, [1, 1, 1], 2), "weighing"),
            (FloorJudge(ABC, 1, [((0, 1, 1), 1), ((1, 0, 1), 1), ((1, 1, 0), 1)]), "weighing"),
            (FloorJudge(Forum("abcd"), 1, [((1, 1, 0, 0), 1), ((0, 0, 1, 1), 1)]), "rising"),
        ]:
            found = rung_of(judge)
            self.assertEqual((found.KIND, found.table()), (kind, judge.table()))
            self.assertEqual((found.forum.text, found.top), (judge.forum.text, 1))
        self.assertEqual(rung_of(RankedJudge(ABC, [(2, 1)], 0)).step, 2)

    def test_all_judges_of_small_forums(self):
        for forum in SMALL:
            tables = tables_of(forum)
            for grades in rising_maps(forum, 1):
                table = tuple(grades.values())
                found = rung_of(TableJudge(forum, 1, table))
                self.assertEqual(found.table(), table)
                self.assertEqual(found.KIND, [kind for kind in KINDS if table in tables[kind]][0])

    def test_sixteen_cases(self):
        kinds = {}
        for forum in [Forum("abcd"), Forum("ab", "mn")]:
            for rows in product((0, 1), repeat=6):
                pairs = [case for case in all_cases(forum) if sum(case) == 2]
                judge = FloorJudge(forum, 1, [(case, 1) for case, taken in zip(pairs, rows) if taken])
                found = rung_of(judge)
                self.assertEqual(found.table(), judge.table())
                kinds.setdefault(found.KIND, []).append(found)
        self.assertEqual(set(kinds), {"ranked", "weighing", "rising"})
        for found in kinds["rising"]:
            self.assertIsInstance(found, FloorJudge)
            won = [case for case in all_cases(found.forum) if found(case) == 1]
            self.assertEqual(found.rows, tuple((case, 1) for case in weakest(won)))
        # No judge of a narrower kind has these grades: both pairs together weigh as much as the other two.
        judge = rung_of(FloorJudge(Forum("abcd"), 1, [((0, 0, 1, 1), 1), ((1, 1, 0, 0), 1), ((1, 1, 1, 0), 1)]))
        self.assertEqual(judge.rows, (((0, 0, 1, 1), 1), ((1, 1, 0, 0), 1)))
        self.assertEqual(rung_of(WeighingJudge(Forum("", "", (3, 1, 1)), [1, 1, 1, 1, 1], 2)).KIND, "weighing")

    def test_more_cases(self):
        for forum in [Forum("abcde"), Forum("a", "", (2, 2)), Forum("ab", "m", (2,))]:
            self.assertGreater(forum.size, 16)
            with self.assertRaises(TooLarge):
                rung_of(SingleJudge(forum, 0))
            with self.assertRaises(NotYesNo):
                rung_of(Judge(forum, 2))

    def test_other_tops(self):
        for top in (2, 3, 4):
            for judge in (Judge(ABC, top), FloorJudge(ABC, top, []), CeilingJudge(ABC, top, [((1, 0, 0), 1)])):
                with self.assertRaises(NotYesNo):
                    rung_of(judge)
