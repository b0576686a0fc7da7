"""Which decisions stand, and what binds a court (points 70 to 72)."""

import unittest

from settledcases.book import quarrels
from settledcases.courts import Courts, Diary
from settledcases.errors import NoCourt, NoRow
from settledcases.forum import Forum
from settledcases.standing import beater, beats, binding, standing
from tests.support import HUGE, beats_by_hand, line_by_hand, sample_entries, standing_by_hand

A = Forum("a")
AB = Forum("ab")
TWO = Courts(A, [-1, 0], [0, 1])
HOUSES = [
    Courts(A, [-1], [1]), Courts(A, [-1], [0]), TWO, Courts(AB, [-1, 0, 0], [1, 0, 1]), Courts(A, [-1, 0, 1, 1], [0, 0, 1, 0]),
    Courts(Forum("", "m", (2,)), [-1, 0, 1, 2, 3, 4], [0, 1, 0, 1, 0, 0]), Courts(AB, [-1, 0, 0, 1, 3, 2], [1, 0, 1, 0, 1, 0]),
]
WON, LOST = ((0,), 1), ((1,), 0)


def diaries(counts=(0, 1, 4, 7, 10), seeds=12, closings=6):
    """Some diaries of each house."""
    for courts in HOUSES:
        for count in counts:
            for seed in range(seeds):
                yield Diary(courts, sample_entries(courts, count, seed, closings))


def decision(court, row):
    """The entry of a decision."""
    return ("decide", court) + row


class BeatsTest(unittest.TestCase):
    """Point 70."""

    def test_one_court(self):
        for grades in (0, 1):
            rows = [WON, LOST] if grades else [LOST, WON]
            firm = Diary(Courts(A, [-1], [1]), [decision(0, row) for row in rows])
            loose = Diary(Courts(A, [-1], [0]), [decision(0, row) for row in rows])
            self.assertEqual([beats(firm, 0, 1), beats(firm, 1, 0)], [True, False])
            self.assertEqual([beats(loose, 0, 1), beats(loose, 1, 0)], [False, True])
            for day in (0, 1):
                self.assertIs(beats(firm, day, day), False)
                self.assertIs(beats(loose, a=day, b=day), False)

    def test_ancestors(self):
        chain = Courts(A, [-1, 0, 1], [0, 0, 0])
        for one in range(3):
            for other in range(3):
                if one != other:
                    diary = Diary(chain, [decision(one, WON), ("close", one), decision(other, LOST)])
                    self.assertIs(beats(diary, 0, 2), one < other)
                    self.assertIs(beats(diary, 2, 0), other < one)

    def test_neither_is_an_ancestor(self):
        diary = Diary(Courts(A, [-1, 0, 0, 1], [1, 1, 1, 1]), [decision(1, WON), decision(2, LOST), decision(3, LOST)])
        self.assertEqual([beats(diary, a, b) for a, b in [(0, 1), (1, 0), (1, 2), (2, 1)]], [False] * 4)
        self.assertEqual([beats(diary, 0, 2), beats(diary, 2, 0)], [True, False])

    def test_no_quarrel(self):
        for rows in [(((1,), 1), ((1,), 1)), (((1,), 1), ((0,), 0)), (((0,), 1), ((1,), 1)), (((0,), 0), ((1,), 0))]:
            for courts in ((0, 0), (0, 1), (1, 1)):
                diary = Diary(TWO, [decision(court, row) for court, row in zip(courts, rows)])
                self.assertEqual([beats(diary, 0, 1), beats(diary, 1, 0)], [False, False])
        diary = Diary(Courts(AB, [-1], [1]), [("decide", 0, (1, 0), 1), ("decide", 0, (0, 1), 0), ("decide", 0, (1, 0), 0)])
        self.assertEqual([beats(diary, 0, 1), beats(diary, 0, 2)], [False, True])

    def test_many(self):
        for diary in diaries():
            days = [day for day, entry in enumerate(diary.entries) if entry[0] == "decide"]
            for a in days:
                for b in days:
                    self.assertIs(beats(diary, a, b), beats_by_hand(diary.courts, diary.entries, a, b))

    def test_no_row(self):
        diary = Diary(TWO, [decision(0, WON), ("close", 0), decision(1, LOST)])
        for wrong in (-1, -3, 1, 3, HUGE, -HUGE):
            for a, b in [(wrong, 0), (0, wrong), (wrong, wrong)]:
                with self.assertRaises(NoRow):
                    beats(diary, a, b)
            with self.assertRaises(NoRow):
                beater(diary, wrong)
        with self.assertRaises(NoRow):
            beater(Diary(TWO), 0)


class StandingTest(unittest.TestCase):
    """Point 71."""

    def test_firm_and_not(self):
        entries = [decision(0, WON), decision(0, LOST), decision(0, WON), decision(0, LOST)]
        self.assertEqual(standing(Diary(Courts(A, [-1], [1]), entries)), (0, 2))
        self.assertEqual(standing(Diary(Courts(A, [-1], [0]), entries)), (1, 3))
        self.assertEqual(standing(Diary(TWO)), ())
        self.assertEqual(standing(Diary(TWO, [("close", 1), ("close", 0)])), ())

    def test_a_decision_stands_again(self):
        entries = [decision(1, WON), decision(0, LOST)]
        self.assertEqual(standing(Diary(TWO, entries)), (1,))
        self.assertEqual(standing(Diary(TWO, entries + [decision(0, WON)])), (0, 2))
        self.assertEqual(standing(Diary(TWO, entries + [decision(0, WON), decision(0, ((1,), 0))])), (1, 3))

    def test_what_is_beaten_beats_nothing(self):
        chain = Courts(A, [-1, 0, 1], [1, 1, 1])
        entries = [decision(2, WON), decision(1, LOST), decision(0, WON)]
        self.assertEqual(standing(Diary(chain, entries)), (0, 2))
        self.assertEqual(standing(Diary(chain, entries[:2])), (1,))

    def test_closings_change_nothing(self):
        for diary in diaries(counts=(4, 8), closings=3):
            decisions = [entry for entry in diary.entries if entry[0] == "decide"]
            days = [day for day, entry in enumerate(diary.entries) if entry[0] == "decide"]
            found = standing(Diary(diary.courts, decisions))
            self.assertEqual(standing(diary), tuple(days[number] for number in found))

    def test_many(self):
        beaten = 0
        for diary in diaries():
            found = standing(diary)
            self.assertIsInstance(found, tuple)
            self.assertEqual(found, standing_by_hand(diary.courts, diary.entries))
            beaten += len([entry for entry in diary.entries if entry[0] == "decide"]) - len(found)
        self.assertGreater(beaten, 200)


class BeaterTest(unittest.TestCase):
    """Points 70 and 71."""

    def test_first_beater(self):
        chain = Courts(A, [-1, 0, 1], [0, 0, 0])
        entries = [decision(2, WON), decision(1, LOST), decision(0, WON), decision(0, LOST), decision(1, LOST)]
        diary = Diary(chain, entries)
        # Day 2 beats day 1, but falls itself, so day 1 stands; both it and day 3 beat day 0.
        self.assertEqual([beater(diary, day) for day in range(5)], [1, None, 3, None, None])
        self.assertEqual(beater(diary=diary, day=0), 1)
        self.assertEqual([beater(Diary(chain, entries[:3]), day) for day in range(3)], [None, 2, None])

    def test_many(self):
        for diary in diaries():
            found = standing(diary)
            for day, entry in enumerate(diary.entries):
                if entry[0] == "decide":
                    beating = [other for other in found if beats_by_hand(diary.courts, diary.entries, other, day)]
                    self.assertEqual(beater(diary, day), beating[0] if beating else None)
                    self.assertEqual(beater(diary, day) is None, day in found)


class BindingTest(unittest.TestCase):
    """Point 72."""

    def test_binding(self):
        courts = Courts(AB, [-1, 0, 0, 1], [1, 1, 1, 0])
        entries = [
            ("decide", 3, (1, 1), 1), ("decide", 1, (0, 1), 0), ("decide", 2, (1, 0), 0), ("close", 1), ("decide", 0, (1, 1), 1),
            ("decide", 3, (0, 0), 1),
        ]
        diary = Diary(courts, entries)
        self.assertEqual([binding(diary, court).rows for court in range(4)], [
            (((1, 1), 1),), (((0, 1), 0), ((1, 1), 1)), (((1, 0), 0), ((1, 1), 1)), (((1, 1), 1), ((0, 1), 0), ((1, 1), 1))])
        self.assertEqual((binding(diary, court=0).top, binding(diary, 0).forum.text), (1, "ab//"))
        self.assertEqual(binding(Diary(courts), 3).rows, ())

    def test_many(self):
        for diary in diaries():
            found = standing(diary)
            for court in range(len(diary.courts.parents)):
                line = line_by_hand(diary.courts, court)
                book = binding(diary, court)
                expected = [diary.entries[day][2:] for day in found if diary.entries[day][1] in line]
                self.assertEqual((book.rows, book.top), (tuple(expected), 1))
                self.assertEqual(quarrels(book), [])

    def test_no_court(self):
        for court in (-1, 2, HUGE, -HUGE):
            for diary in (Diary(TWO), Diary(TWO, [decision(0, WON)])):
                with self.assertRaises(NoCourt):
                    binding(diary, court)
