"""Courts and diaries (points 68 and 69)."""

import unittest

from settledcases.courts import Courts, Diary
from settledcases.errors import Closed, NoCase, NoCourt, NoGrade, TooLarge
from settledcases.forum import Forum
from tests.support import HUGE

AB = Forum("ab")
TWO = Courts(AB, [-1, 0], [0, 1])
TREE = Courts(AB, [-1, 0, 0, 1, 3, 2], [1, 0, 1, 0, 1, 0])
DECIDE = ("decide", 1, (1, 0), 1)
NO_CASES = [(), (1,), (1, 0, 0), (2, 0), (0, -1), (HUGE, 0)]


class CourtsTest(unittest.TestCase):
    """Point 68."""

    def test_fields(self):
        parents, firm = [-1, 0, 0], [0, 1, 0]
        courts = Courts(forum=AB, parents=parents, firm=firm)
        parents[2] = 1
        firm.clear()
        self.assertIs(courts.forum, AB)
        self.assertEqual((courts.parents, courts.firm), ((-1, 0, 0), (0, 1, 0)))

    def test_numbers_of_courts(self):
        for count in range(1, 7):
            for courts in (Courts(AB, [-1] + [0] * (count - 1), [1] * count), Courts(AB, tuple(range(-1, count - 1)), (0,) * count)):
                self.assertEqual(len(courts.parents), count)
                self.assertEqual(len(courts.firm), count)
        for parents, firm in [([], []), ((), ()), ([], [1]), ([-1] + [0] * 6, [1] * 7), (list(range(-1, 6)), [0] * 7), (list(range(-1, 6)), [0] * 6)]:
            with self.assertRaises(NoCourt):
                Courts(AB, parents, firm)

    def test_wrong_parents(self):
        for parents in [[0, 0, 0], [-2, 0, 0], [1, 0, 0], [HUGE, 0, 0], [-1, -1, 0], [-1, 1, 0], [-1, 2, 0], [-1, 0, 2], [-1, 0, 3], [-1, 0, -1],
                        [-1, 0, HUGE], [-1, -HUGE, 0]]:
            with self.assertRaises(NoCourt):
                Courts(AB, parents, [1, 1, 1])
        for parent in (0, 1, -2):
            with self.assertRaises(NoCourt):
                Courts(AB, [parent], [1])

    def test_wrong_firm(self):
        for firm in [[], [1], [1, 1], [1, 1, 1, 1], [2, 1, 1], [1, 1, -1], [1, HUGE, 1], [1, 0, 2]]:
            with self.assertRaises(NoCourt):
                Courts(AB, [-1, 0, 0], firm)

    def test_lines(self):
        self.assertEqual([TREE.line_of(court) for court in range(6)], [[0], [0, 1], [0, 2], [0, 1, 3], [0, 1, 3, 4], [0, 2, 5]])
        self.assertEqual(Courts(AB, [-1], [0]).line_of(court=0), [0])
        chain = Courts(AB, range(-1, 5), [0] * 6)
        self.assertEqual(chain.line_of(5), [0, 1, 2, 3, 4, 5])
        chain.line_of(5).append(7)
        self.assertEqual(chain.line_of(5), [0, 1, 2, 3, 4, 5])
        for court in (-1, 6, HUGE, -HUGE):
            with self.assertRaises(NoCourt):
                TREE.line_of(court)


class DiaryTest(unittest.TestCase):
    """Point 69."""

    def test_fields(self):
        entries = [DECIDE, ("close", 1), ("decide", 0, (0, 0), 0)]
        diary = Diary(courts=TWO, entries=entries)
        kept = tuple(entries)
        entries.clear()
        self.assertIs(diary.courts, TWO)
        self.assertEqual((diary.entries, list(diary), tuple(diary)), (kept, list(kept), kept))
        self.assertEqual((Diary(TWO).entries, list(Diary(TWO))), ((), []))

    def test_ten_entries(self):
        self.assertEqual(len(Diary(TWO, [DECIDE] * 10).entries), 10)
        self.assertEqual(len(Diary(TWO, (DECIDE,) * 9).decided(1, (1, 0), 1).entries), 10)
        self.assertEqual(len(Diary(TWO, (DECIDE,) * 9).closed(1).entries), 10)
        full = Diary(TWO, [DECIDE] * 10)
        for asked in (lambda: Diary(TWO, [DECIDE] * 11), lambda: full.decided(1, (1, 0), 1), lambda: full.closed(0)):
            with self.assertRaises(TooLarge):
                asked()

    def test_decided(self):
        diary = Diary(TWO, [DECIDE])
        more = diary.decided(court=0, case=(0, 0), grade=0)
        self.assertIs(more.courts, TWO)
        self.assertEqual(more.entries, (DECIDE, ("decide", 0, (0, 0), 0)))
        self.assertEqual(diary.entries, (DECIDE,))
        for wrong in NO_CASES:
            with self.assertRaises(NoCase):
                diary.decided(7, wrong, 3)
        for grade in (-1, 2, HUGE, -HUGE):
            with self.assertRaises(NoGrade):
                diary.decided(-1, (1, 0), grade)
        for court in (-1, 2, HUGE, -HUGE):
            with self.assertRaises(NoCourt):
                diary.decided(court, (1, 0), 1)

    def test_closed(self):
        diary = Diary(TWO, [DECIDE])
        more = diary.closed(court=1)
        self.assertEqual((more.entries, more.closed_courts(), diary.closed_courts()), ((DECIDE, ("close", 1)), (1,), ()))
        self.assertEqual(more.closed(0).closed_courts(), (0, 1))
        self.assertEqual(diary.entries, (DECIDE,))
        for asked in (lambda: more.closed(1), lambda: more.decided(1, (1, 0), 1)):
            with self.assertRaises(Closed) as caught:
                asked()
            self.assertEqual(caught.exception.court, 1)
        for court in (-1, 2, HUGE, -HUGE):
            with self.assertRaises(NoCourt):
                diary.closed(court)
        # A closing closes no other court.
        self.assertEqual(len(more.decided(0, (0, 0), 0).entries), 3)
        self.assertEqual(len(diary.closed(0).decided(1, (0, 0), 0).closed(1).entries), 4)

    def test_closed_courts(self):
        diary = Diary(TREE, [("close", 4), ("decide", 2, (1, 1), 1), ("close", 0), ("close", 3)])
        self.assertEqual(diary.closed_courts(), (0, 3, 4))
        self.assertEqual(Diary(TREE).closed_courts(), ())

    def test_first_closed_entry(self):
        for entries, court in [
            ([("close", 3), ("close", 1), ("decide", 1, (1, 0), 1), ("decide", 3, (1, 0), 1)], 1),
            ([("close", 3), ("close", 1), ("close", 3), ("close", 1)], 3),
            ([("close", 0), ("decide", 1, (1, 0), 1), ("decide", 0, (1, 0), 1)], 0),
            ([("close", 5), ("close", 5)], 5),
        ]:
            with self.assertRaises(Closed) as caught:
                Diary(TREE, entries)
            self.assertEqual(caught.exception.court, court)

    def test_errors_in_order(self):
        closed = [("close", 0), ("close", 0)]
        case, grade, court = ("decide", 0, (1,), 1), ("decide", 0, (1, 0), 2), ("decide", 2, (1, 0), 1)
        for entries, error in [
            ([court, grade, case], NoCase), (closed * 6 + [case], NoCase), ([("decide", 9, (1, 0, 0), 9)], NoCase),
            ([court, grade], NoGrade), (closed + [grade], NoGrade), ([DECIDE] * 10 + [grade], NoGrade), ([("close", 5), grade], NoGrade),
            (closed + [court], NoCourt), ([DECIDE] * 10 + [("close", 2)], NoCourt), ([("close", -1)], NoCourt), (closed + [("close", HUGE)], NoCourt),
            (closed * 6, TooLarge), ([DECIDE] * 11, TooLarge), (closed, Closed), ([("close", 0)] + [DECIDE] * 8 + [("close", 0)], Closed),
        ]:
            with self.assertRaises(error):
                Diary(TWO, entries)
