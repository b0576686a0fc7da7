"""What falls and what is restored from day to day (point 77)."""

import unittest

from settledcases.book import settled
from settledcases.courts import Courts, Diary
from settledcases.errors import NoCase, NoCourt
from settledcases.forum import Forum
from settledcases.standing import binding, standing
from settledcases.turns import history, turns
from tests.support import HUGE, all_cases, is_beneath, line_by_hand, standing_by_hand
from tests.test_standing import A, AB, LOST, TWO, WON, decision, diaries

NO_CASES = [(), (0, 0), (2,), (-1,), (HUGE,)]
NOTHING = ((), ())


def turns_by_hand(diary):
    """What falls and what is restored on each day, by the words of point 77."""
    found = []
    for day in range(len(diary.entries)):
        before = standing_by_hand(diary.courts, diary.entries[:day])
        after = standing_by_hand(diary.courts, diary.entries[:day + 1])
        fallen = [earlier for earlier in range(day) if earlier in before and earlier not in after]
        restored = [earlier for earlier in range(day) if earlier not in before and earlier in after]
        found.append((tuple(fallen), tuple(restored)))
    return found


def history_by_hand(diary, court, case):
    """What binds the court for the case on each day, by counting."""
    found = []
    for day in range(len(diary.entries)):
        entries = diary.entries[:day + 1]
        line = line_by_hand(diary.courts, court)
        rows = [entries[k][2:] for k in standing_by_hand(diary.courts, entries) if entries[k][1] in line]
        won = [row for row in rows if row[1] == 1 and is_beneath(row[0], case)]
        lost = [row for row in rows if row[1] == 0 and is_beneath(case, row[0])]
        found.append(1 if won else 0 if lost else None)
    return found


class TurnsTest(unittest.TestCase):
    def test_empty_diary(self):
        self.assertEqual(list(turns(Diary(TWO))), [])

    def test_nothing_falls(self):
        diary = Diary(TWO, [decision(0, WON), decision(1, WON), decision(1, LOST)])
        # The last decision is beaten on its own day, so it is no earlier decision that falls.
        self.assertEqual(standing(diary), (0, 1))
        self.assertEqual(list(turns(diary)), [NOTHING] * 3)

    def test_one_and_several_fall(self):
        diary = Diary(TWO, [decision(1, WON), decision(1, ((0,), 1)), decision(1, ((1,), 1)), decision(0, LOST)])
        self.assertEqual(list(turns(diary)), [NOTHING, NOTHING, NOTHING, ((0, 1, 2), ())])
        diary = Diary(TWO, [decision(0, WON), decision(0, LOST)])
        self.assertEqual(list(turns(diary)), [NOTHING, ((0,), ())])

    def test_restored(self):
        diary = Diary(TWO, [decision(1, WON), decision(0, LOST), decision(0, WON), decision(0, LOST)])
        self.assertEqual(list(turns(diary)), [NOTHING, ((0,), ()), ((1,), (0,)), ((0, 2), (1,))])

    def test_a_firm_court_and_its_parent(self):
        # The firm court 1 decides against itself; its second decision stands once the first one has fallen.
        courts = Courts(AB, [-1, 0], [0, 1])
        rows = [(1, (1, 0), 1), (1, (1, 1), 0), (0, (1, 0), 0), (0, (1, 0), 1)]
        diary = Diary(courts, [("decide",) + row for row in rows])
        self.assertEqual(list(turns(diary)), [NOTHING, NOTHING, ((0,), (1,)), ((1, 2), (0,))])

    def test_closings(self):
        diary = Diary(TWO, [decision(1, WON), ("close", 1), decision(0, LOST), ("close", 0)])
        self.assertEqual(list(turns(diary)), [NOTHING, NOTHING, ((0,), ()), NOTHING])
        for diary in diaries(closings=2):
            for entry, turn in zip(diary, turns(diary)):
                if entry[0] == "close":
                    self.assertEqual(turn, NOTHING)

    def test_many(self):
        seen = set()
        for diary in diaries():
            found = list(turns(diary))
            self.assertEqual(found, turns_by_hand(diary))
            seen |= {(len(fallen), len(restored)) for fallen, restored in found}
        self.assertTrue({(0, 0), (1, 0), (2, 0), (1, 1), (3, 0)} <= seen, seen)

    def test_kinds_of_values(self):
        for turn in turns(Diary(TWO, [decision(1, WON), decision(0, LOST)])):
            self.assertEqual([type(part) for part in (turn,) + turn], [tuple] * 3)


class HistoryTest(unittest.TestCase):
    def test_day_by_day(self):
        diary = Diary(TWO, [decision(1, WON), ("close", 1), decision(0, LOST), decision(0, WON),
                            decision(0, ((1,), 1))])
        self.assertEqual(history(diary, 1, (1,)), [1, 1, 0, 1, 1])
        self.assertEqual(history(diary, court=0, case=(0,)), [None, None, 0, 1, 1])
        self.assertEqual(history(Diary(TWO), 1, (1,)), [])

    def test_many(self):
        for diary in diaries(seeds=4):
            for court in range(len(diary.courts.parents)):
                for case in all_cases(diary.courts.forum):
                    found = history(diary, court, case)
                    self.assertEqual(found, history_by_hand(diary, court, case))
                    books = [binding(Diary(diary.courts, diary.entries[:day + 1]), court)
                             for day in range(len(diary.entries))]
                    self.assertEqual(found, [settled(book, case) for book in books])

    def test_new_lists(self):
        diary = Diary(TWO, [decision(0, WON)])
        history(diary, 0, (1,)).append(7)
        self.assertEqual(history(diary, 0, (1,)), [1])

    def test_errors_in_order(self):
        for diary in (Diary(TWO), Diary(TWO, [decision(0, WON)]), Diary(Courts(A, [-1, 0], [1, 1]), [("close", 0)])):
            for court in (0, 1, 2, -1, HUGE):
                for wrong in NO_CASES:
                    with self.assertRaises(NoCase):
                        history(diary, court, wrong)
            for court in (-1, 2, HUGE, -HUGE):
                with self.assertRaises(NoCourt):
                    history(diary, court, (1,))
        with self.assertRaises(NoCase):
            history(Diary(Courts(Forum("ab"), [-1], [1])), 5, (1,))
