"""Closing a book, and the keepers of the kinds single and ranked (points 46, 49 and 51 to 53)."""

import unittest
from itertools import combinations, permutations, product

from settledcases.book import Book
from settledcases.closing import closing, greatest_closed_set, ranked_keeper, single_keeper
from settledcases.errors import NotYesNo
from settledcases.forum import Forum
from settledcases.kinds import RankedJudge, SingleJudge
from settledcases.papers import ClosedSet, FailedSteps
from tests.support import FORUMS, sample_books
from tests.test_kinds import reaches
from tests.test_papers import SQUARE, is_closed_set

AB = Forum("ab")
ABC = Forum("abc")


def closed_by_hand(book):
    """The grounds and the rest of closing, by the words of point 52."""
    left = dict(enumerate(book.rows))
    grounds = []
    while len({grade for _, grade in left.values()}) == 2:
        for step, side in product(range(len(book.forum.steps)), (1, 0)):
            spoken = [row for row in left if reaches(book.forum, left[row][0], step) == bool(side)]
            if spoken and all(left[row][1] == side for row in spoken):
                grounds.append((step, side))
                left = {row: left[row] for row in left if row not in spoken}
                break
        else:
            break
    return tuple(grounds), tuple(left)


def ranked_judges(forum):
    """All ranked judges of the forum."""
    many = len(forum.steps)
    for count in range(many + 1):
        for steps in permutations(range(many), count):
            for sides in product((0, 1), repeat=count):
                for default in (0, 1):
                    yield RankedJudge(forum, list(zip(steps, sides)), default)


class ClosingTest(unittest.TestCase):
    """Point 52."""

    def test_no_rows_and_rows_of_one_grade(self):
        self.assertEqual(closing(Book(ABC)), ((), ()))
        for grade in (0, 1):
            rows = [((1, 0, 0), grade), ((0, 0, 1), grade), ((1, 0, 0), grade)]
            self.assertEqual(closing(Book(ABC, 1, rows)), ((), (0, 1, 2)))

    def test_rests(self):
        won, lost = ((1, 0, 0), 1), ((0, 0, 1), 0)
        # Won rows alone are left only where there is no lost row from the beginning.
        self.assertEqual(closing(Book(ABC, 1, [won])), ((), (0,)))
        self.assertEqual(closing(Book(ABC, 1, [lost, won])), (((0, 1),), (0,)))
        self.assertEqual(closing(Book(ABC, 1, [((1, 0, 0), 0), ((1, 1, 0), 1), ((1, 1, 0), 1)])), (((1, 1),), (0,)))
        self.assertEqual(closing(Book(ABC, 1, [((1, 0, 0), 1), ((0, 0, 1), 0), ((1, 0, 1), 1)])), (((0, 1),), (1,)))
        self.assertEqual(closing(Book(ABC, 1, [((1, 0, 0), 0), ((1, 1, 0), 1), ((0, 1, 0), 0)])), (((0, 0), (1, 1)), (0,)))
        self.assertEqual(closing(Book(ABC, 1, [((1, 1, 0), 1), ((1, 0, 1), 1), ((0, 0, 0), 0)])), (((0, 1),), (2,)))
        self.assertEqual(closing(Book(ABC, 1, [((1, 1, 1), 1), ((1, 0, 0), 1), ((1, 0, 1), 0)])), (((1, 1),), (1, 2)))
        self.assertEqual(closing(Book(ABC, 1, [((0, 0, 1), 0), ((1, 1, 0), 1), ((1, 1, 1), 1)])), (((0, 1),), (0,)))
        self.assertEqual(closing(Book(Forum("a"), 1, [((0,), 1), ((1,), 0)])), ((), (0, 1)))
        self.assertEqual(closing(SQUARE), ((), (0, 1, 2, 3)))

    def test_the_order_begins_again(self):
        rows = [((1, 0, 0), 0), ((1, 1, 0), 1), ((0, 1, 0), 0), ((0, 1, 1), 1)]
        # The ground (0, 1) is good only when the first row is gone.
        self.assertEqual(closing(Book(ABC, 1, rows)), (((1, 0), (0, 1), (2, 1)), (2,)))

    def test_no_good_ground_speaks_for_no_row(self):
        forum = Forum("", "", (3,))
        self.assertEqual(closing(Book(forum, 1, [((1,), 0), ((2,), 1)])), (((1, 1),), (0,)))
        self.assertEqual(closing(Book(forum, 1, [((1,), 1), ((2,), 0)])), ((), (0, 1)))

    def test_many_books(self):
        several = 0
        for book in self.books():
            found = closing(book)
            self.assertEqual(found, closed_by_hand(book))
            self.assertIsInstance(found[0], tuple)
            self.assertIsInstance(found[1], tuple)
            several += len(found[0]) > 2
        self.assertGreater(several, 5)

    def books(self):
        yield from sample_books(FORUMS, (1,), (0, 1, 2, 3, 6, 10), 6)

    def test_other_tops(self):
        """Point 46."""
        for asked in (closing, ranked_keeper, greatest_closed_set, single_keeper):
            for top in (2, 3, 4):
                for rows in ([], [((1, 0, 0), 1), ((0, 0, 1), 0)]):
                    with self.assertRaises(NotYesNo):
                        asked(Book(ABC, top, rows))


class RankedKeeperTest(unittest.TestCase):
    """Point 53."""

    def test_no_rows(self):
        judge = ranked_keeper(Book(AB))
        self.assertEqual((judge.grounds, judge.default), ((), 0))

    def test_defaults(self):
        for rows, grounds, default in [
            ([((1, 0), 1)], (), 1), ([((1, 0), 0)], (), 0), ([((1, 0), 1), ((0, 1), 0)], ((0, 1),), 0),
            ([((1, 0), 0), ((1, 1), 1), ((0, 1), 0)], ((0, 0), (1, 1)), 0),
            ([((0, 1), 0), ((1, 1), 1), ((0, 0), 0)], ((0, 1),), 0),
            ([((0, 0), 0), ((0, 1), 1), ((1, 0), 1)], ((0, 1), (1, 1)), 0),
        ]:
            judge = ranked_keeper(Book(AB, 1, rows))
            self.assertIsInstance(judge, RankedJudge)
            self.assertEqual((judge.grounds, judge.default), (grounds, default))

    def test_many_books(self):
        kept, closed, defaults = 0, 0, set()
        for book in sample_books(FORUMS, (1,), (0, 1, 2, 3, 6, 10), 6):
            grounds, rest = closing(book)
            found = ranked_keeper(book)
            grades = {book.rows[row][1] for row in rest}
            if len(grades) == 2:
                self.assertIsInstance(found, ClosedSet)
                self.assertEqual(found.rows, rest)
                self.assertTrue(found.holds(book))
                closed += 1
            else:
                self.assertIsInstance(found, RankedJudge)
                self.assertEqual((found.grounds, found.default), (grounds, sum(grades)))
                self.assertEqual(found.forum.text, book.forum.text)
                self.assertTrue(found.keeps(book))
                defaults.add(found.default)
                kept += 1
        self.assertGreater(min(kept, closed), 50)
        self.assertEqual(defaults, {0, 1})

    def test_all_ranked_judges(self):
        """Point 49: a book that the closed set names is kept by no ranked judge, another one by some."""
        for forum in FORUMS[:7]:
            tables = {judge.table() for judge in ranked_judges(forum)}
            cases = list(forum)
            for book in sample_books([forum], (1,), (1, 2, 3, 4), 8):
                kept = any(all(table[cases.index(case)] == grade for case, grade in book.rows) for table in tables)
                self.assertEqual(isinstance(ranked_keeper(book), RankedJudge), kept)


class GreatestClosedSetTest(unittest.TestCase):
    """Point 53."""

    def test_examples(self):
        self.assertEqual(greatest_closed_set(SQUARE), (0, 1, 2, 3))
        self.assertEqual(greatest_closed_set(Book(ABC)), ())
        self.assertEqual(greatest_closed_set(Book(ABC, 1, [((1, 0, 0), 1), ((0, 1, 0), 1)])), ())
        self.assertEqual(greatest_closed_set(Book(ABC, 1, [((1, 0, 0), 0)])), ())

    def test_all_sets_of_rows(self):
        found = 0
        for book in sample_books(FORUMS, (1,), (0, 1, 2, 4, 6), 6):
            numbers = range(len(book.rows))
            sets = [chosen for k in range(len(book.rows) + 1) for chosen in combinations(numbers, k)]
            closed = [chosen for chosen in sets if is_closed_set(book, chosen)]
            greatest = greatest_closed_set(book)
            self.assertEqual(greatest, tuple(sorted({row for chosen in closed for row in chosen})))
            self.assertTrue(greatest in closed or not closed)
            found += bool(closed)
        self.assertGreater(found, 50)


class SingleKeeperTest(unittest.TestCase):
    """Points 47 and 51."""

    def test_no_rows(self):
        for forum in FORUMS:
            self.assertEqual(single_keeper(Book(forum)).step, 0)

    def test_first_step(self):
        judge = single_keeper(Book(ABC, 1, [((0, 1, 1), 1), ((1, 0, 0), 0)]))
        self.assertIsInstance(judge, SingleJudge)
        self.assertEqual((judge.step, judge.forum.text), (1, "abc//"))
        self.assertEqual(single_keeper(Book(ABC, 1, [((0, 1, 1), 1), ((1, 1, 0), 0)])).step, 2)

    def test_failed_steps(self):
        paper = single_keeper(Book(ABC, 1, [((0, 1, 0), 1), ((1, 0, 0), 1), ((1, 1, 0), 0), ((0, 0, 1), 0)]))
        self.assertIsInstance(paper, FailedSteps)
        self.assertEqual((paper.rows, paper.text), ((0, 1, 0), "failed 0 1 0"))

    def test_many_books(self):
        judges, papers = 0, 0
        for book in sample_books(FORUMS, (1,), (0, 1, 2, 3, 6, 10), 6):
            breaks = []
            for step in range(len(book.forum.steps)):
                wrong = [row for row, (case, grade) in enumerate(book.rows) if reaches(book.forum, case, step) != bool(grade)]
                breaks.append(wrong[0] if wrong else None)
            found = single_keeper(book)
            if None in breaks:
                self.assertIsInstance(found, SingleJudge)
                self.assertEqual(found.step, breaks.index(None))
                self.assertTrue(found.keeps(book))
                judges += 1
            else:
                self.assertIsInstance(found, FailedSteps)
                self.assertEqual(found.rows, tuple(breaks))
                self.assertTrue(found.holds(book))
                papers += 1
        self.assertGreater(min(judges, papers), 50)
