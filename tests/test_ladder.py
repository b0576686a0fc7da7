"""Keepers and verdicts of all kinds (points 46, 49 and 55)."""

import unittest

from settledcases.balance import weighing_keeper
from settledcases.book import Book
from settledcases.closing import ranked_keeper, single_keeper
from settledcases.errors import NoCase, NoKeeper, NotYesNo, TooLarge
from settledcases.forum import Forum
from settledcases.judges import FloorJudge, Judge
from settledcases.kinds import KINDS
from settledcases.ladder import keeper, rising_keeper, verdict
from settledcases.papers import ClosedSet, FailedSteps, Paper, Quarrel
from tests.support import FORUMS, HUGE, all_cases, all_quarrels, rising_maps, sample_books
from tests.test_balance import kept_by_weights
from tests.test_closing import ranked_judges
from tests.test_kinds import reaches
from tests.test_papers import SQUARE

AB = Forum("ab")
ABC = Forum("abc")
NO_CASES = [(), (0, 0), (0, 0, 0, 0), (2, 0, 0), (0, -1, 0), (HUGE, 0, 0)]


def shown(found):
    """What a keeper is, in a form that can be compared."""
    if isinstance(found, Paper):
        return found.text
    return found.KIND, found.table()


def tables_of(forum):
    """The tables of all judges of each kind, for forums with at most three steps."""
    cases = all_cases(forum)
    return {
        "single": {tuple(1 if reaches(forum, case, k) else 0 for case in cases) for k in range(len(forum.steps))},
        "ranked": {judge.table() for judge in ranked_judges(forum)},
        "weighing": set(kept_by_weights(forum)),
        "rising": {tuple(judge[case] for case in cases) for judge in rising_maps(forum, 1)},
    }


class RisingKeeperTest(unittest.TestCase):
    def test_no_quarrel(self):
        book = Book(ABC, 1, [((0, 1, 0), 0), ((1, 0, 0), 1), ((1, 0, 1), 1)])
        judge = rising_keeper(book)
        self.assertIsInstance(judge, FloorJudge)
        self.assertEqual((judge.rows, judge.top, judge.forum.text), (book.rows, 1, "abc//"))
        self.assertEqual(rising_keeper(Book(ABC)).rows, ())

    def test_first_quarrel(self):
        paper = rising_keeper(Book(ABC, 1, [((1, 1, 0), 0), ((0, 1, 0), 1), ((1, 0, 0), 1), ((1, 0, 0), 0)]))
        self.assertIsInstance(paper, Quarrel)
        self.assertEqual((paper.low, paper.high), (1, 0))

    def test_many_books(self):
        for book in sample_books(FORUMS, (1,), (0, 2, 4, 10), 4):
            found, odds = rising_keeper(book), all_quarrels(book.rows)
            if odds:
                self.assertEqual((found.low, found.high), odds[0])
            else:
                self.assertEqual(found.rows, book.rows)
                self.assertTrue(found.keeps(book))


class KeeperTest(unittest.TestCase):
    def test_example(self):
        self.assertEqual(keeper("ranked", SQUARE).text, "closed 0 1 2 3")

    def test_each_kind(self):
        functions = dict(zip(KINDS, (single_keeper, ranked_keeper, weighing_keeper, rising_keeper)))
        for book in sample_books(FORUMS, (1,), (0, 2, 4, 10), 3):
            for kind in KINDS:
                found = keeper(kind, book)
                self.assertEqual(shown(found), shown(functions[kind](book)))
                self.assertEqual(found.KIND, kind)
                self.assertTrue(found.holds(book) if isinstance(found, Paper) else found.keeps(book))

    def test_all_judges(self):
        """Point 49."""
        for forum in [ABC, Forum("a", "m"), Forum("", "", (3,)), Forum("a", "", (2,))]:
            cases, tables = all_cases(forum), tables_of(forum)
            for book in sample_books([forum], (1,), (0, 1, 2, 3, 4), 10):
                for kind in KINDS:
                    kept = any(all(table[cases.index(case)] == grade for case, grade in book.rows) for table in tables[kind])
                    self.assertEqual(isinstance(keeper(kind, book), Judge), kept)

    def test_wider_kinds(self):
        for book in sample_books(FORUMS, (1,), (2, 3, 4, 6), 6):
            kept = [isinstance(keeper(kind, book), Judge) for kind in KINDS]
            self.assertEqual(kept, sorted(kept))

    def test_other_tops(self):
        """Point 46."""
        for top in (2, 3, 4):
            for rows in ([], [((1, 0, 0), 1), ((1, 1, 0), 0)]):
                with self.assertRaises(NotYesNo):
                    rising_keeper(Book(ABC, top, rows))
                for kind in KINDS:
                    with self.assertRaises(NotYesNo):
                        keeper(kind, Book(ABC, top, rows))


class VerdictTest(unittest.TestCase):
    """Point 55."""

    def test_example(self):
        grade, paper = verdict("rising", SQUARE, (1, 1, 1, 0))
        self.assertEqual((grade, paper.text), (1, "quarrel 0 4"))

    def test_each_kind(self):
        book = Book(ABC, 1, [((1, 1, 0), 1), ((0, 1, 0), 0)])
        for kind in KINDS:
            grade, paper = verdict(kind, book, (1, 1, 1))
            self.assertEqual((grade, isinstance(paper, Paper)), (1, True))
            grade, paper = verdict(kind, book, (0, 0, 0))
            self.assertEqual((grade, isinstance(paper, Paper)), (0, True))
        self.assertIsInstance(verdict("single", book, (1, 0, 0))[1], FailedSteps)
        self.assertEqual([verdict(kind, book, (1, 0, 0))[0] for kind in KINDS], [1, None, None, None])
        self.assertEqual([verdict(kind, book, (0, 1, 1))[0] for kind in KINDS], [0, None, None, None])
        book = Book(AB, 1, [((1, 0), 1), ((0, 0), 0)])
        self.assertEqual([verdict(kind, book, (0, 1))[0] for kind in KINDS], [0, None, None, None])
        self.assertIsInstance(verdict("ranked", book, (1, 1))[1], ClosedSet)

    def test_no_rows(self):
        for kind in KINDS:
            grade, (lost, won) = verdict(kind, Book(ABC), (1, 0, 0))
            self.assertEqual((grade, lost((1, 0, 0)), won((1, 0, 0))), (None, 0, 1))
        self.assertEqual(verdict("single", Book(ABC), (0, 0, 0))[0], 0)
        self.assertEqual(verdict("single", Book(ABC), (1, 1, 1))[0], 1)
        for kind in KINDS[1:]:
            self.assertIsNone(verdict(kind, Book(ABC), (0, 0, 0))[0])

    def test_all_judges(self):
        seen = set()
        for forum in [ABC, Forum("a", "m"), Forum("", "", (3,)), Forum("a", "", (2,))]:
            cases, tables = all_cases(forum), tables_of(forum)
            for book in sample_books([forum], (1,), (0, 1, 2, 3), 6):
                for kind in KINDS:
                    keeping = [table for table in tables[kind]
                               if all(table[cases.index(case)] == grade for case, grade in book.rows)]
                    for at, case in enumerate(cases):
                        grades = {table[at] for table in keeping}
                        seen.add((kind, tuple(sorted(grades))))
                        self.check(kind, book, case, grades)
        self.assertEqual(seen, {(kind, grades) for kind in KINDS for grades in [(), (0,), (1,), (0, 1)]})

    def check(self, kind, book, case, grades):
        """Compares the verdict with the grades that the judges who keep the book give the case."""
        if not grades:
            with self.assertRaises(NoKeeper) as caught:
                verdict(kind, book, case)
            self.assertEqual(caught.exception.kind, kind)
            return
        grade, rest = verdict(kind, book, case)
        lost, won = keeper(kind, book.added(case, 0)), keeper(kind, book.added(case, 1))
        if len(grades) == 2:
            self.assertIsNone(grade)
            self.assertIsInstance(rest, tuple)
            self.assertEqual([shown(judge) for judge in rest], [shown(lost), shown(won)])
            self.assertTrue(rest[0].keeps(book.added(case, 0)) and rest[1].keeps(book.added(case, 1)))
        else:
            self.assertEqual({grade}, grades)
            self.assertNotIsInstance(grade, bool)
            self.assertEqual(shown(rest), shown(lost if grade == 1 else won))
            self.assertTrue(rest.holds(book.added(case, 1 - grade)))

    def test_wider_and_narrower_kinds(self):
        for book in sample_books([Forum("abcde"), Forum("ab", "m", (2,)), Forum("", "", (2, 3))], (1,), (2, 3, 5, 9), 4):
            for case in all_cases(book.forum)[::3]:
                grades = []
                for kind in KINDS:
                    try:
                        grades.append(verdict(kind, book, case)[0])
                    except NoKeeper:
                        grades.append("none")
                for narrow in range(4):
                    for wide in range(narrow + 1, 4):
                        if grades[wide] in (0, 1):
                            self.assertIn(grades[narrow], (grades[wide], "none"))

    def test_errors_in_order(self):
        quarrel = [((1, 0, 0), 1), ((1, 1, 0), 0)]
        for kind in KINDS:
            for top in (2, 4):
                for case in [(1, 0, 0), (9, 9)]:
                    for rows in (quarrel, [((1, 0, 0), 1)] * 10):
                        with self.assertRaises(NotYesNo):
                            verdict(kind, Book(ABC, top, rows), case)
            for wrong in NO_CASES:
                for rows in (quarrel, quarrel * 5, []):
                    with self.assertRaises(NoCase):
                        verdict(kind, Book(ABC, 1, rows), wrong)
            for rows in (quarrel * 5, [((1, 0, 0), 1)] * 10):
                with self.assertRaises(TooLarge):
                    verdict(kind, Book(ABC, 1, rows), (1, 0, 1))
            with self.assertRaises(NoKeeper) as caught:
                verdict(kind, Book(ABC, 1, quarrel), (1, 0, 1))
            self.assertEqual(caught.exception.kind, kind)
            self.assertEqual(verdict(kind, Book(ABC, 1, [((1, 0, 0), 1)] * 9), (1, 0, 0))[0], 1)
        with self.assertRaises(NoKeeper) as caught:
            verdict("weighing", SQUARE, (1, 0, 0, 0))
        self.assertEqual(caught.exception.kind, "weighing")
