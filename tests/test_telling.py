"""What courts have told for good, and what they could still decide (points 73 to 76)."""

import unittest
from itertools import product

from settledcases.book import settled
from settledcases.courts import Courts, Diary
from settledcases.errors import NoCase, NoCourt, NoGrade
from settledcases.forum import Forum
from settledcases.standing import binding, standing
from settledcases.telling import final_book, first_unclosed, lowest_court, told
from tests.support import HUGE, all_cases, line_by_hand, sample_entries, standing_by_hand
from tests.test_standing import LOST, TWO, WON, decision, diaries

A = Forum("a")
CHAIN = Courts(A, [-1, 0, 1], [0, 1, 0])
TREE = Courts(Forum("ab"), [-1, 0, 0, 1, 3, 2], [1, 0, 1, 0, 1, 0])
NO_CASES = [(), (0, 0), (2,), (-1,), (HUGE,)]


def unclosed_by_hand(diary, court):
    """The courts on the line of the court that are not closed."""
    closed = [entry[1] for entry in diary.entries if entry[0] == "close"]
    return [other for other in line_by_hand(diary.courts, court) if other not in closed]


def next_days(diary):
    """All diaries with one entry more."""
    closed = [entry[1] for entry in diary.entries if entry[0] == "close"]
    for court in range(len(diary.courts.parents)):
        if court not in closed:
            yield diary.closed(court)
            for case in all_cases(diary.courts.forum):
                for grade in (0, 1):
                    yield diary.decided(court, case, grade)


class FirstUnclosedTest(unittest.TestCase):
    """Point 73."""

    def test_some_closed(self):
        diary = Diary(TREE, [("close", 1), ("close", 3)])
        self.assertEqual([first_unclosed(diary, court) for court in range(6)], [0, 0, 0, 0, 0, 0])
        diary = diary.closed(0)
        self.assertEqual([first_unclosed(diary, court) for court in range(6)], [None, None, 2, None, 4, 2])
        self.assertIsNone(first_unclosed(diary.closed(4), court=4))
        self.assertEqual(first_unclosed(Diary(TREE), 5), 0)

    def test_many(self):
        for diary in diaries(closings=2):
            for court in range(len(diary.courts.parents)):
                unclosed = unclosed_by_hand(diary, court)
                self.assertEqual(first_unclosed(diary, court), unclosed[0] if unclosed else None)

    def test_no_court(self):
        for court in (-1, 2, HUGE, -HUGE):
            for asked in (first_unclosed, final_book):
                with self.assertRaises(NoCourt):
                    asked(Diary(TWO), court)


class FinalBookTest(unittest.TestCase):
    """Point 74."""

    def test_firm_and_not(self):
        entries = [decision(0, WON), decision(1, ((1,), 1)), decision(2, ((0,), 1))]
        diary = Diary(CHAIN, entries)
        # No court closed: court 0 is not firm.
        self.assertEqual([final_book(diary, court).rows for court in range(3)], [(), (), ()])
        # Court 0 closed: court 1 is firm, so its decisions are final, but not those of court 2.
        diary = diary.closed(0)
        self.assertEqual([final_book(diary, court).rows for court in range(3)], [(WON,), (WON, ((1,), 1)), (WON, ((1,), 1))])
        # Courts 0 and 1 closed: court 2 is not firm.
        self.assertEqual(final_book(diary.closed(1), 2).rows, (WON, ((1,), 1)))
        # All courts closed.
        self.assertEqual(final_book(diary.closed(1).closed(2), 2).rows, (WON, ((1,), 1), ((0,), 1)))
        # A closed court behind an unclosed one is not final.
        self.assertEqual(final_book(Diary(CHAIN, entries).closed(2), 2).rows, ())
        self.assertEqual(final_book(diary.closed(2), court=2).rows, (WON, ((1,), 1)))

    def test_firm_root(self):
        courts = Courts(A, [-1, 0], [1, 1])
        diary = Diary(courts, [decision(1, ((1,), 1)), decision(0, WON)])
        self.assertEqual([final_book(diary, court).rows for court in (0, 1)], [(WON,), (WON,)])
        self.assertEqual(final_book(diary.closed(0), 1).rows, (((1,), 1), WON))
        self.assertEqual((final_book(diary, 1).top, final_book(diary, 1).forum.text), (1, "a//"))

    def test_only_standing_decisions(self):
        diary = Diary(TWO, [decision(1, WON), decision(0, LOST), ("close", 0), decision(1, LOST)])
        self.assertEqual(final_book(diary, 1).rows, (LOST, LOST))

    def test_many(self):
        for diary in diaries(closings=3):
            found = standing(diary)
            for court in range(len(diary.courts.parents)):
                line, unclosed = line_by_hand(diary.courts, court), unclosed_by_hand(diary, court)
                sure = line
                if unclosed:
                    sure = line[:line.index(unclosed[0])] + ([unclosed[0]] if diary.courts.firm[unclosed[0]] else [])
                expected = [diary.entries[day][2:] for day in found if diary.entries[day][1] in sure]
                self.assertEqual(final_book(diary, court).rows, tuple(expected))

    def test_further_days(self):
        for courts in (TWO, CHAIN, Courts(A, [-1, 0], [1, 0])):
            for seed in range(30):
                diary = Diary(courts, sample_entries(courts, 4, seed, 3))
                for court in range(len(courts.parents)):
                    final = final_book(diary, court).rows
                    for later in next_days(diary):
                        rows = list(final_book(later, court).rows)
                        self.assertTrue(all(rows.count(row) >= final.count(row) for row in final))


class ToldTest(unittest.TestCase):
    """Point 75."""

    def test_example(self):
        diary = Diary(TWO, [("decide", 1, (1,), 1), ("decide", 0, (1,), 0), ("decide", 0, (1,), 1)])
        self.assertEqual([told(diary, 1, (1,)), told(diary.closed(0), 1, (1,))], ["not yet", "won"])

    def test_each_answer(self):
        diary = Diary(TWO, [decision(1, LOST), ("close", 0)])
        self.assertEqual([told(diary, 0, case) for case in [(0,), (1,)]], ["never", "never"])
        self.assertEqual([told(diary, 1, case) for case in [(0,), (1,)]], ["lost", "lost"])
        diary = Diary(TWO, [decision(1, ((0,), 0)), ("close", 0)])
        self.assertEqual([told(diary, 1, case) for case in [(0,), (1,)]], ["lost", "not yet"])
        self.assertEqual([told(diary.closed(1), court=1, case=case) for case in [(0,), (1,)]], ["lost", "never"])
        diary = Diary(TWO, [decision(0, WON)])
        self.assertEqual([told(diary, 0, (1,)), told(diary, 1, (1,)), told(diary.closed(0), 1, (1,))], ["not yet", "not yet", "won"])

    def test_further_days(self):
        """Each answer is compared with what the next two days can bring."""
        seen = set()
        for courts in (TWO, CHAIN, Courts(A, [-1, 0], [1, 0])):
            for seed in range(25):
                diary = Diary(courts, sample_entries(courts, 5, seed, 2))
                for court, case in product(range(len(courts.parents)), all_cases(A)):
                    answer = told(diary, court, case)
                    seen.add(answer)
                    one = [settled(binding(later, court), case) for later in next_days(diary)]
                    two = [settled(binding(last, court), case) for later in next_days(diary) for last in next_days(later)]
                    found = set(one + two + [settled(binding(diary, court), case)])
                    if answer == "not yet":
                        self.assertLessEqual({0, 1}, set(one))
                        first = first_unclosed(diary, court)
                        for grade in (0, 1):
                            self.assertIn(5, standing(diary.decided(first, case, grade)))
                            self.assertEqual(settled(binding(diary.decided(first, case, grade), court), case), grade)
                    else:
                        self.assertEqual(found, {{"won": 1, "lost": 0, "never": None}[answer]})
        self.assertEqual(seen, {"won", "lost", "never", "not yet"})

    def test_many(self):
        for diary in diaries(closings=2, seeds=6):
            for court in range(len(diary.courts.parents)):
                for case in all_cases(diary.courts.forum):
                    grade = settled(final_book(diary, court), case)
                    rest = "not yet" if unclosed_by_hand(diary, court) else "never"
                    self.assertEqual(told(diary, court, case), {1: "won", 0: "lost", None: rest}[grade])

    def test_errors_in_order(self):
        for diary in (Diary(TWO), Diary(TWO, [decision(0, WON)] * 10)):
            for wrong in NO_CASES:
                for court in (0, 1, 2, -1):
                    with self.assertRaises(NoCase):
                        told(diary, court, wrong)
            for court in (-1, 2, HUGE, -HUGE):
                with self.assertRaises(NoCourt):
                    told(diary, court, (1,))


class LowestCourtTest(unittest.TestCase):
    """Point 76."""

    def test_examples(self):
        diary = Diary(CHAIN)
        self.assertEqual([lowest_court(diary, court, (1,), 1) for court in range(3)], [0, 1, 2])
        # Against court 0, courts 1 and 2 cannot decide, but court 0 itself can, as it is not firm.
        diary = Diary(CHAIN, [decision(0, WON)])
        self.assertEqual([lowest_court(diary, 2, (1,), grade) for grade in (0, 1)], [0, 2])
        # Against the firm court 1, only court 0 can.
        diary = Diary(CHAIN, [decision(1, WON)])
        self.assertEqual([lowest_court(diary, court, (1,), 0) for court in range(3)], [0, 0, 0])
        self.assertIsNone(lowest_court(diary.closed(0), 2, (1,), 0))
        self.assertEqual(lowest_court(diary.closed(0), court=2, case=(1,), grade=1), 2)
        # Against court 2, which is not firm, it can itself.
        diary = Diary(CHAIN, [decision(2, WON)])
        self.assertEqual([lowest_court(diary, 2, (1,), 0), lowest_court(diary.closed(2), 2, (1,), 0)], [2, 1])
        self.assertIsNone(lowest_court(diary.closed(0).closed(1).closed(2), 2, (1,), 0))

    def test_courts_beside_the_line(self):
        diary = Diary(TREE, [("decide", 2, (0, 0), 1), ("decide", 1, (0, 0), 0)])
        self.assertEqual([lowest_court(diary, court, (1, 1), 0) for court in range(6)], [0, 1, 0, 3, 4, 0])

    def test_many(self):
        none = 0
        for diary in diaries(counts=(0, 3, 6, 9), seeds=6, closings=3):
            for court, grade in product(range(len(diary.courts.parents)), (0, 1)):
                for case in all_cases(diary.courts.forum):
                    able = [other for other in unclosed_by_hand(diary, court)
                            if len(diary.entries) in standing(diary.decided(other, case, grade))]
                    lowest = lowest_court(diary, court, case, grade)
                    self.assertEqual(lowest, able[-1] if able else None)
                    ahead = [other for other in unclosed_by_hand(diary, court) if able and other <= able[-1]]
                    self.assertEqual(able, ahead)
                    none += lowest is None
        self.assertGreater(none, 20)

    def test_ten_entries(self):
        for diary in diaries(counts=(10,), seeds=3, closings=8):
            if len(diary.entries) < 10:
                continue
            for court, grade in product(range(len(diary.courts.parents)), (0, 1)):
                for case in all_cases(diary.courts.forum):
                    able = []
                    for other in unclosed_by_hand(diary, court):
                        entries = diary.entries + (("decide", other, case, grade),)
                        able += [other] if 10 in standing_by_hand(diary.courts, entries) else []
                    self.assertEqual(lowest_court(diary, court, case, grade), able[-1] if able else None)
            self.assertEqual(len(diary.entries), 10)
        self.assertEqual(lowest_court(Diary(TWO, [decision(0, WON)] * 10), 1, (1,), 0), 0)
        self.assertEqual(lowest_court(Diary(TWO, [decision(0, WON)] * 10), 1, (1,), 1), 1)

    def test_errors_in_order(self):
        for diary in (Diary(TWO), Diary(TWO, [decision(0, WON)] * 10)):
            for wrong in NO_CASES:
                for court, grade in [(0, 1), (2, 1), (0, 2), (-1, -1)]:
                    with self.assertRaises(NoCase):
                        lowest_court(diary, court, wrong, grade)
            for grade in (-1, 2, HUGE, -HUGE):
                for court in (0, 1, 2, -1):
                    with self.assertRaises(NoGrade):
                        lowest_court(diary, court, (1,), grade)
            for court in (-1, 2, HUGE, -HUGE):
                with self.assertRaises(NoCourt):
                    lowest_court(diary, court, (1,), 1)
