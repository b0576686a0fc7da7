"""Papers (points 46 and 49 to 51)."""

import unittest
from itertools import product

from settledcases.book import Book
from settledcases.errors import NotYesNo
from settledcases.forum import Forum
from settledcases.papers import Balance, ClosedSet, FailedSteps, Paper, Quarrel
from tests.support import FORUMS, all_quarrels, sample_books
from tests.test_kinds import reaches

ABC = Forum("abc")
ABCD = Forum("abcd")
LONG = 10 ** 999
# The example of the ladder: every step is reached and missed by one won and one lost row.
SQUARE = Book(ABCD, 1, [((1, 1, 0, 0), 1), ((0, 0, 1, 1), 1), ((1, 0, 1, 0), 0), ((0, 1, 0, 1), 0)])
PAPERS = [Paper(), Quarrel(0, 1), Balance([(0, 1), (1, 1)]), ClosedSet([0, 1]), FailedSteps([0, 1, 0])]


def balances(book, counts):
    """Whether the counts are a balance, by counting."""
    if any(not 0 <= row < len(book.rows) or count < 1 for row, count in counts):
        return False
    if not counts or [row for row, _ in counts] != sorted({row for row, _ in counts}):
        return False
    signed = [(book.rows[row][0], count if book.rows[row][1] == 1 else -count) for row, count in counts]
    sums = [sum(count for case, count in signed if reaches(book.forum, case, k)) for k in range(len(book.forum.steps))]
    return sum(count for _, count in signed) == 0 and max(sums) <= 0


def is_closed_set(book, numbers):
    """Whether the numbers are a closed set, by counting."""
    if any(not 0 <= row < len(book.rows) for row in numbers) or list(numbers) != sorted(set(numbers)):
        return False
    rows = [book.rows[row] for row in numbers]
    if {grade for _, grade in rows} != {0, 1}:
        return False
    for step in range(len(book.forum.steps)):
        grades = {side: {grade for case, grade in rows if reaches(book.forum, case, step) == side} for side in (True, False)}
        if (grades[True] and 0 not in grades[True]) or (grades[False] and 1 not in grades[False]):
            return False
    return True


def is_failing(book, numbers):
    """Whether the numbers are failed steps, by counting."""
    if any(not 0 <= row < len(book.rows) for row in numbers) or len(numbers) != len(book.forum.steps):
        return False
    return all(reaches(book.forum, book.rows[row][0], k) != bool(book.rows[row][1]) for k, row in enumerate(numbers))


class PaperTest(unittest.TestCase):
    def test_paper(self):
        paper = Paper()
        self.assertEqual((paper.text, paper.row_numbers()), ("paper", ()))
        for book in (Book(ABC), SQUARE):
            self.assertIs(paper.holds(book), False)

    def test_kinds(self):
        self.assertEqual([paper.KIND for paper in PAPERS], ["paper", "rising", "weighing", "ranked", "single"])
        for paper in PAPERS:
            self.assertIsInstance(paper, Paper)
            own = vars(paper.__class__)
            self.assertTrue({"holds", "row_numbers", "text", "KIND"} <= set(own))
            self.assertIsInstance(own["text"], property)

    def test_other_tops(self):
        """Point 46."""
        for paper in PAPERS + [Quarrel(-1, 70), Balance([]), Balance([(9, 0)]), ClosedSet([]), FailedSteps([])]:
            for top in (2, 3, 4):
                for rows in ([], [((1, 0, 0), 1), ((1, 1, 0), 0)]):
                    with self.assertRaises(NotYesNo):
                        paper.holds(Book(ABC, top, rows))

    def test_no_rows(self):
        for forum in FORUMS:
            many = len(forum.steps)
            for paper in [Quarrel(0, 0), Quarrel(0, 1), Balance([]), Balance([(0, 1)]), ClosedSet([]), ClosedSet([0]),
                          FailedSteps([]), FailedSteps([0] * many)]:
                self.assertIs(paper.holds(Book(forum)), False)

    def test_numbers_that_are_no_row_numbers(self):
        """Point 49."""
        rows = [((1, 0, 0), 1), ((1, 0, 0), 0)]
        book = Book(ABC, 1, rows)
        self.assertTrue(Quarrel(0, 1).holds(book))
        self.assertTrue(Balance([(0, 1), (1, 1)]).holds(book))
        self.assertTrue(ClosedSet([0, 1]).holds(book))
        self.assertTrue(FailedSteps([1, 0, 0]).holds(book))
        for wrong in (-1, -2, 2, LONG, -LONG):
            for paper in [
                Quarrel(0, wrong), Quarrel(wrong, 1), Balance([(0, 1), (wrong, 1)]), Balance([(wrong, 1), (1, 1)]),
                Balance([(0, 1), (1, 1), (wrong, 1)]), Balance([(wrong, 1), (0, 1), (1, 1)]), ClosedSet([0, wrong]),
                ClosedSet([wrong, 1]), ClosedSet([0, 1, wrong]), ClosedSet([wrong, 0, 1]), FailedSteps([1, 0, wrong]),
                FailedSteps([wrong, 0, 0]), FailedSteps([1, wrong, 0]),
            ]:
                self.assertIs(paper.holds(book), False)

    def test_texts_and_numbers_of_papers_that_do_not_hold(self):
        for paper, text, numbers in [
            (Quarrel(7, 3), "quarrel 7 3", (3, 7)), (Quarrel(4, 4), "quarrel 4 4", (4,)),
            (Quarrel(-1, LONG), f"quarrel -1 {LONG}", (-1, LONG)),
            (Balance([]), "balance", ()), (Balance([(5, 0), (2, -3), (5, 1)]), "balance 5:0 2:-3 5:1", (2, 5)),
            (Balance([(LONG, LONG)]), f"balance {LONG}:{LONG}", (LONG,)),
            (ClosedSet([]), "closed", ()), (ClosedSet([3, 1, 3, 2]), "closed 3 1 3 2", (1, 2, 3)),
            (FailedSteps([]), "failed", ()), (FailedSteps([3, 0, 3, -1]), "failed 3 0 3 -1", (-1, 0, 3)),
        ]:
            self.assertEqual((paper.text, paper.row_numbers()), (text, numbers))
            self.assertIs(paper.holds(Book(ABC, 1, [((1, 0, 0), 1), ((1, 0, 0), 0)])), False)


class QuarrelTest(unittest.TestCase):
    """Point 50."""

    def test_quarrel(self):
        paper = Quarrel(low=3, high=1)
        self.assertEqual((paper.low, paper.high, paper.text, paper.row_numbers()), (3, 1, "quarrel 3 1", (1, 3)))

    def test_each_condition(self):
        book = Book(ABC, 1, [((1, 0, 0), 1), ((1, 1, 0), 0), ((0, 1, 1), 0), ((1, 1, 1), 1), ((0, 1, 0), 0)])
        self.assertIs(Quarrel(0, 1).holds(book), True)
        # The other way round, cases side by side, the same grade, and the right grades for the order.
        for low, high in [(1, 0), (0, 2), (0, 3), (0, 0), (4, 1), (4, 3), (3, 1)]:
            self.assertIs(Quarrel(low, high).holds(book), False)

    def test_many_books(self):
        for book in sample_books(FORUMS, (1,), (0, 2, 6, 10), 3):
            for low, high in product(range(-2, 12), repeat=2):
                self.assertEqual(Quarrel(low, high).holds(book), (low, high) in all_quarrels(book.rows))


class BalanceTest(unittest.TestCase):
    """Point 50."""

    def test_balance(self):
        counts = [(0, 2), (1, 2), (2, 1), (3, 3)]
        paper = Balance(counts=counts)
        counts.append((4, 1))
        self.assertEqual(paper.counts, ((0, 2), (1, 2), (2, 1), (3, 3)))
        self.assertEqual((paper.text, paper.row_numbers()), ("balance 0:2 1:2 2:1 3:3", (0, 1, 2, 3)))

    def test_each_condition(self):
        even = [(0, 1), (1, 1), (2, 1), (3, 1)]
        self.assertIs(Balance(even).holds(SQUARE), True)
        self.assertIs(Balance([(row, LONG) for row in range(4)]).holds(SQUARE), True)
        for counts in [
            [], [(1, 1), (0, 1), (2, 1), (3, 1)], [(0, 1), (0, 1), (2, 1), (3, 1)], even + [(3, 1)],
            [(0, 0), (1, 2), (2, 1), (3, 1)], [(0, 0), (1, 0), (2, 0), (3, 0)], [(0, -1), (1, -1), (2, -1), (3, -1)],
            [(0, 1), (1, 1), (2, 1), (3, 2)], [(0, 2), (1, 1), (2, 1), (3, 2)], [(0, 1), (2, 1)], [(0, 1)], [(2, 1)],
            [(0, 1), (1, 1)], [(2, 1), (3, 1)], [(0, LONG), (1, LONG), (2, LONG), (3, LONG + 1)],
        ]:
            self.assertIs(Balance(counts).holds(SQUARE), False)

    def test_conditions_alone(self):
        """Counts that break one condition and no other one."""
        rows = list(SQUARE.rows) + [((0, 0, 0, 0), 1), ((0, 0, 0, 0), 0)]
        book = Book(ABCD, 1, rows)
        even = [(0, 1), (1, 1), (2, 1), (3, 1)]
        self.assertIs(Balance(even + [(4, 1), (5, 1)]).holds(book), True)
        for counts in [
            [], [(0, 1), (0, 1), (1, 2), (2, 2), (3, 2)], [(1, 1), (0, 1), (2, 1), (3, 1)], even + [(4, 0)], even + [(5, 0)],
            even + [(4, -1), (5, -1)], even + [(4, 1)], even + [(5, 1)], [(0, 1), (1, 1), (2, 2)], [(0, 2), (2, 1), (3, 1)],
            [(1, 1), (2, 1)], [(0, 1), (5, 1)],
        ]:
            self.assertIs(Balance(counts).holds(book), False)

    def test_a_lost_row_more_breaks_only_the_sums(self):
        book = Book(ABC, 1, [((1, 0, 0), 1), ((1, 0, 0), 0), ((0, 1, 0), 0)])
        self.assertIs(Balance([(0, 1), (1, 1)]).holds(book), True)
        self.assertIs(Balance([(0, 1), (1, 2)]).holds(book), False)
        self.assertIs(Balance([(0, 1), (1, 1), (2, 1)]).holds(book), False)
        self.assertIs(Balance([(0, 2), (1, 1), (2, 1)]).holds(book), False)
        self.assertIs(Balance([(0, 1), (2, 1)]).holds(book), False)

    def test_lost_rows_may_reach_more(self):
        book = Book(Forum("", "", (3, 2)), 1, [((1, 1), 1), ((2, 0), 0), ((0, 2), 0), ((3, 1), 0)])
        self.assertIs(Balance([(0, 1), (3, 1)]).holds(book), True)
        self.assertIs(Balance([(0, 2), (1, 1), (2, 1)]).holds(book), False)
        self.assertIs(Balance([(0, 3), (1, 1), (2, 1), (3, 1)]).holds(book), False)
        self.assertIs(Balance([(0, 4), (1, 1), (2, 1), (3, 2)]).holds(book), False)

    def test_many_books(self):
        held = 0
        for book in sample_books(FORUMS, (1,), (2, 3, 4), 4):
            for times in product(range(3), repeat=len(book.rows)):
                counts = [(row, count) for row, count in enumerate(times) if count]
                self.assertEqual(Balance(counts).holds(book), balances(book, counts))
                held += balances(book, counts)
        self.assertGreater(held, 100)


class ClosedSetTest(unittest.TestCase):
    """Point 51."""

    def test_closed_set(self):
        rows = [0, 1, 2, 3]
        paper = ClosedSet(rows=rows)
        rows.append(4)
        self.assertEqual((paper.rows, paper.text, paper.row_numbers()), ((0, 1, 2, 3), "closed 0 1 2 3", (0, 1, 2, 3)))

    def test_each_condition(self):
        self.assertIs(ClosedSet((0, 1, 2, 3)).holds(SQUARE), True)
        for rows in [[], [1, 0, 2, 3], [0, 1, 2, 3, 3], [0, 0, 1, 2, 3], [0, 1], [2, 3], [0], [2], [3, 2, 1, 0]]:
            self.assertIs(ClosedSet(rows).holds(SQUARE), False)
        # One step is reached only by won rows.
        self.assertIs(ClosedSet([0, 1]).holds(Book(ABC, 1, [((1, 1, 0), 1), ((1, 0, 1), 0)])), False)
        # One step is missed only by lost rows.
        book = Book(ABC, 1, [((0, 0, 1), 1), ((1, 1, 0), 0), ((1, 1, 1), 0)])
        self.assertIs(ClosedSet([0, 2]).holds(book), True)
        self.assertIs(ClosedSet([0, 1, 2]).holds(book), False)
        self.assertIs(ClosedSet([0, 1]).holds(Book(ABC, 1, [((1, 1, 0), 1), ((1, 1, 0), 0)])), True)
        self.assertIs(ClosedSet([0, 1]).holds(Book(ABC, 1, [((1, 0, 1), 1), ((1, 1, 1), 0)])), True)
        self.assertIs(ClosedSet([0, 1]).holds(Book(ABC, 1, [((1, 1, 1), 1), ((1, 1, 0), 0)])), False)
        forum = Forum("", "", (2,))
        self.assertIs(ClosedSet([0, 1]).holds(Book(forum, 1, [((2,), 1), ((1,), 0)])), False)
        self.assertIs(ClosedSet([0, 1]).holds(Book(forum, 1, [((1,), 1), ((2,), 0)])), True)

    def test_rows_of_one_grade_only(self):
        # Each step is reached by a lost row, or missed by a won row, where a row does so at all.
        self.assertIs(ClosedSet([0]).holds(Book(ABC, 1, [((1, 1, 1), 0)])), False)
        self.assertIs(ClosedSet([0]).holds(Book(ABC, 1, [((0, 0, 0), 1)])), False)

    def test_many_books(self):
        held = 0
        for book in sample_books(FORUMS, (1,), (2, 4, 6), 4):
            for chosen in product((0, 1), repeat=len(book.rows)):
                numbers = [row for row, taken in enumerate(chosen) if taken]
                self.assertEqual(ClosedSet(numbers).holds(book), is_closed_set(book, numbers))
                held += is_closed_set(book, numbers)
        self.assertGreater(held, 100)


class FailedStepsTest(unittest.TestCase):
    """Point 51."""

    def test_failed_steps(self):
        rows = [1, 0, 0, 1]
        paper = FailedSteps(rows=rows)
        rows.append(4)
        self.assertEqual((paper.rows, paper.text, paper.row_numbers()), ((1, 0, 0, 1), "failed 1 0 0 1", (0, 1)))

    def test_each_condition(self):
        self.assertIs(FailedSteps([1, 1, 0, 0]).holds(SQUARE), True)
        self.assertIs(FailedSteps((2, 3, 2, 3)).holds(SQUARE), True)
        for rows in [
            [], [1, 1, 0], [1, 1, 0, 0, 0], [1, 1, 0, 0, 2], [0, 1, 0, 0], [1, 2, 0, 0], [1, 1, 3, 0], [1, 1, 0, 2], [1],
        ]:
            self.assertIs(FailedSteps(rows).holds(SQUARE), False)

    def test_many_books(self):
        held = 0
        for book in sample_books(FORUMS[:7], (1,), (1, 2, 4), 3):
            many = len(book.forum.steps)
            for count in {max(many - 1, 0), many, many + 1} if many < 4 else {many}:
                for numbers in product(range(-1, len(book.rows) + 1), repeat=count):
                    self.assertEqual(FailedSteps(numbers).holds(book), is_failing(book, numbers))
                    held += is_failing(book, numbers)
        self.assertGreater(held, 100)
