"""Weighing judges and balances (points 48, 50 and 54)."""

import random
import unittest
from itertools import product

from settledcases.balance import weighing_keeper
from settledcases.book import Book
from settledcases.errors import NotYesNo
from settledcases.forum import Forum
from settledcases.kinds import WeighingJudge
from settledcases.order import strongest, weakest
from settledcases.papers import Balance
from tests.support import FORUMS, all_cases, sample_books
from tests.test_kinds import reaches
from tests.test_papers import SQUARE, balances

ABCDE = Forum("abcde")


def kept_by_weights(forum):
    """The tables of all judges with small weights."""
    cases = all_cases(forum)
    many = len(forum.steps)
    for weights in product(range(4), repeat=many):
        sums = [sum(weights[k] for k in range(many) if reaches(forum, case, k)) for case in cases]
        for bar in range(max(sums) + 2):
            yield tuple(1 if weight >= bar else 0 for weight in sums)


def weighable_books(seeds):
    """Books of ten rows that a weighing judge keeps, and the same books with one grade changed."""
    for seed in range(seeds):
        source = random.Random(f"weights {seed}")
        forum = source.choice([ABCDE, Forum("ab", "cde"), Forum("a", "m", (3,)), Forum("", "", (2, 3)), Forum("abcd")])
        cases = all_cases(forum)
        weights = [source.randint(0, 9) for _ in forum.steps]
        sums = {case: sum(weights[k] for k in range(len(weights)) if reaches(forum, case, k)) for case in cases}
        bar = source.choice(sorted(sums.values()))
        rows = [(case, 1 if sums[case] >= bar else 0) for case in source.choices(cases, k=10)]
        yield Book(forum, 1, rows), True
        at = source.randrange(10)
        rows[at] = (rows[at][0], 1 - rows[at][1])
        yield Book(forum, 1, rows), False


def tight_books(seeds):
    """Books of the weakest won and the strongest lost cases of judges with weights, as many as there is room for."""
    for seed in range(seeds):
        source = random.Random(f"tight {seed}")
        cases = all_cases(ABCDE)
        weights = [source.randint(1, 9) for _ in range(5)]
        sums = {case: sum(weights[k] * case[k] for k in range(5)) for case in cases}
        bar = source.randint(2, sum(weights) - 1)
        won = weakest([case for case in cases if sums[case] >= bar])
        lost = strongest([case for case in cases if sums[case] < bar])
        rows = [(case, 1) for case in won] + [(case, 0) for case in lost]
        yield Book(ABCDE, 1, source.sample(rows, min(len(rows), 10)))


class WeighingKeeperTest(unittest.TestCase):
    """Point 54."""

    def check(self, book):
        """The keeper of the book, after a check that it is a judge that keeps it or a balance that holds."""
        found = weighing_keeper(book)
        if isinstance(found, WeighingJudge):
            self.assertEqual((found.forum.text, found.top), (book.forum.text, 1))
            self.assertTrue(all(weight >= 0 for weight in found.weights))
            for case, grade in book.rows:
                weight = sum(found.weights[k] for k in range(len(found.weights)) if reaches(book.forum, case, k))
                self.assertEqual(1 if weight >= found.bar else 0, grade)
            self.assertTrue(found.keeps(book))
        else:
            self.assertIsInstance(found, Balance)
            self.assertTrue(balances(book, found.counts))
            self.assertTrue(found.holds(book))
        return found

    def test_no_rows_and_rows_of_one_grade(self):
        for forum in FORUMS:
            self.assertIsInstance(self.check(Book(forum)), WeighingJudge)
            for grade in (0, 1):
                rows = [(case, grade) for case in all_cases(forum)[:10]]
                self.assertIsInstance(self.check(Book(forum, 1, rows)), WeighingJudge)
                extremes = [(forum.weakest_case, grade), (forum.strongest_case, grade)]
                self.assertIsInstance(self.check(Book(forum, 1, extremes)), WeighingJudge)

    def test_the_weakest_case_wins_or_the_strongest_loses(self):
        for forum in FORUMS:
            for rows in ([(forum.weakest_case, 1), (forum.strongest_case, 0)], [(forum.weakest_case, 1), (forum.weakest_case, 0)]):
                found = self.check(Book(forum, 1, rows))
                self.assertEqual([row for row, _ in found.counts], [0, 1])

    def test_square(self):
        found = self.check(SQUARE)
        self.assertIsInstance(found, Balance)
        self.assertEqual(found.row_numbers(), (0, 1, 2, 3))
        for row in range(4):
            self.assertIsInstance(self.check(SQUARE - [row]), WeighingJudge)

    def test_different_weights_are_needed(self):
        rows = [
            ((1, 0, 0, 0, 0), 1), ((0, 1, 1, 1, 1), 0), ((0, 1, 0, 0, 0), 0), ((0, 1, 0, 0, 1), 0), ((1, 0, 0, 0, 1), 1),
        ]
        self.assertIsInstance(self.check(Book(ABCDE, 1, rows)), WeighingJudge)

    def test_different_counts_are_needed(self):
        # Weight 2 times the first won case is that of the two lost ones together.
        forum = Forum("", "", (2, 2))
        rows = [((1, 1), 1), ((2, 0), 0), ((0, 2), 0), ((1, 0), 1), ((0, 1), 1)]
        self.check(Book(forum, 1, rows))
        rows = [((1, 1, 1, 0, 0), 1), ((1, 0, 0, 1, 1), 1), ((1, 1, 0, 1, 0), 0), ((1, 0, 1, 0, 1), 0), ((0, 1, 1, 1, 1), 0)]
        self.check(Book(ABCDE, 1, rows))

    def test_all_weights(self):
        """Point 49: a balance holds exactly if no judge keeps the book."""
        for forum in [Forum("abc"), Forum("a", "m", (1,)), Forum("", "", (1, 2)), Forum("", "", (3,)), Forum("a")]:
            tables = set(kept_by_weights(forum))
            cases = all_cases(forum)
            judges = 0
            for book in sample_books([forum], (1,), (0, 1, 2, 3, 4, 5, 8), 20):
                kept = any(all(table[cases.index(case)] == grade for case, grade in book.rows) for table in tables)
                self.assertEqual(isinstance(self.check(book), WeighingJudge), kept)
                judges += kept
            self.assertGreater(judges, 10)

    def test_books_that_judges_keep(self):
        balanced = 0
        for book, kept in weighable_books(300):
            found = self.check(book)
            if kept:
                self.assertIsInstance(found, WeighingJudge)
            balanced += isinstance(found, Balance)
        self.assertGreater(balanced, 50)

    def test_tight_books(self):
        for book in tight_books(1200):
            self.assertIsInstance(self.check(book), WeighingJudge)

    def test_many_books(self):
        for book in sample_books(FORUMS, (1,), range(11), 8):
            self.check(book)

    def test_other_tops(self):
        """Point 46."""
        for top in (2, 3, 4):
            for rows in ([], [((1, 0, 0, 0, 0), 1), ((1, 1, 0, 0, 0), 0)]):
                with self.assertRaises(NotYesNo):
                    weighing_keeper(Book(ABCDE, top, rows))
