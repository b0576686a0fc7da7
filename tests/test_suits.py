"""Suits and rulings (points 58 to 60)."""

import unittest
from itertools import product

from settledcases.errors import NoCase, NoForum, NoGrade, TooLarge
from settledcases.forum import Forum
from settledcases.suits import Rulings, Suit
from tests.support import HUGE, all_cases, all_parts, plain_ruling

A = Forum("a")
B = Forum("b")
MIXED = Forum("c", "m", (2,))
PAIR = Suit([A, B])
WRONG_PARTS = [
    (), ((0,),), ((0,), (1,), None), ((0,), (1,), (1,)), (None, None), ((0,), (0, 1)), ((), (0,)), ((2,), (0,)), ((0,), (-1,)),
    ((HUGE,), None), (None, (HUGE,)), ((0, 0), None), (None, None, (0,)), (None,),
]


class SuitTest(unittest.TestCase):
    """Point 58."""

    def test_forums(self):
        forums = [A, A, MIXED]
        suit = Suit(forums=forums)
        self.assertIsInstance(suit.forums, tuple)
        self.assertEqual([forum.text for forum in suit.forums], ["a//", "a//", "c/m/2"])
        forums.clear()
        self.assertEqual(len(suit.forums), 3)
        for count in (1, 2, 3):
            self.assertEqual(len(Suit((A,) * count).forums), count)

    def test_number_of_forums(self):
        for count in (0, 4, 5):
            for forums in ([A] * count, (A,) * count):
                with self.assertRaises(NoForum):
                    Suit(forums)

    def test_parts(self):
        for parts in [((0,), (1,)), ((1,), None), (None, (0,))]:
            self.assertIs(parts in PAIR, True)
        for parts in WRONG_PARTS:
            self.assertIs(parts in PAIR, False)
        for suit in (Suit([A]), Suit([MIXED, A]), Suit([B, A, MIXED])):
            count = 0
            for parts in all_parts(suit):
                self.assertIs(parts in suit, True)
                count += 1
                # A tuple that is no case at each place, and an issue too few or too many.
                for issue in range(len(parts)):
                    for wrong in [(), (9, 9, 9), (0, 0, 0, 0), (0, -1, 0)]:
                        self.assertIs(parts[:issue] + (wrong,) + parts[issue + 1:] in suit, False)
                self.assertIs(parts + (None,) in suit, False)
                self.assertIs((None,) + parts in suit, False)
                self.assertIs(parts[:-1] in suit, False)
            self.assertIs((None,) * len(suit.forums) in suit, False)
            self.assertGreater(count, 1)


class JoinedTest(unittest.TestCase):
    """Point 59."""

    def test_joined_forum(self):
        for forums, text in [
            ([A], "a//"), ([A, B], "ab//"), ([B, A], "ba//"), ([MIXED, A], "ca/m/2"), ([Forum("", "", (2,)), Forum("", "n", (1,))], "/n/21"),
            ([Forum("", "n", (1,)), Forum("c", "m"), A], "ca/nm/1"),
        ]:
            self.assertEqual(Suit(forums).joined_forum().text, text)

    def test_no_joined_forum(self):
        for forums in [
            [A, A], [Forum("a", "b"), Forum("c", "a")], [Forum("", "m"), B, Forum("", "m")], [MIXED, Forum("ab")],
            [Forum("abc"), Forum("", "mno")], [Forum("", "", (3,)), Forum("", "", (3,))], [Forum("ab"), Forum("cd"), Forum("", "", (2,))],
        ]:
            suit = Suit(forums)
            for asked in (suit.joined_forum, lambda: suit.joined_case((None,)), lambda: suit.joined_case(())):
                with self.assertRaises(NoForum):
                    asked()
        self.assertEqual(len(Suit([MIXED, A]).joined_forum().steps), 5)

    def test_joined_case(self):
        suit = Suit([Forum("a", "m", (1,)), Forum("b", "n")])
        self.assertEqual(suit.joined_forum().text, "ab/mn/1")
        self.assertEqual(suit.joined_case(((1, 0, 1), (0, 1))), (1, 0, 0, 1, 1))
        self.assertEqual(suit.joined_case(parts=((0, 0, 0), (1, 1))), (0, 1, 0, 1, 0))
        suit = Suit([Forum("", "", (2,)), Forum("", "", (1, 2))])
        self.assertEqual(suit.joined_case(((2,), (0, 1))), (2, 0, 1))
        self.assertEqual(Suit([MIXED]).joined_case(((1, 0, 2),)), (1, 0, 2))

    def test_levels(self):
        suit = Suit([Forum("", "m", (1,)), Forum("b"), Forum("a", "n")])
        joined = suit.joined_forum()
        seen = set()
        for parts in product(*[all_cases(forum) for forum in suit.forums]):
            case = suit.joined_case(parts)
            self.assertIn(case, joined)
            seen.add(case)
            named = dict(zip(joined.pro + joined.con + "1", case))
            for forum, part in zip(suit.forums, parts):
                for name, level in zip(forum.pro + forum.con + "1" * len(forum.tops), part):
                    self.assertEqual(named[name], level)
        self.assertEqual(len(seen), joined.size)

    def test_no_case(self):
        for parts in WRONG_PARTS + [((0,), None), (None, (1,))]:
            with self.assertRaises(NoCase):
                PAIR.joined_case(parts)


class RulingsTest(unittest.TestCase):
    """Point 60."""

    def test_fields(self):
        rows = [(((0,), None), "all", 1), ((None, (1,)), "any", 0)]
        rulings = Rulings(suit=PAIR, rows=rows)
        kept = tuple(rows)
        rows.clear()
        self.assertIs(rulings.suit, PAIR)
        self.assertEqual((rulings.rows, list(rulings), tuple(rulings)), (kept, list(kept), kept))
        self.assertEqual((Rulings(PAIR).rows, list(Rulings(PAIR))), ((), []))

    def test_plain_and_choice_rulings(self):
        rows = [(((0,), (1,)), mode, grade) for mode in ("all", "any") for grade in (0, 1)]
        self.assertEqual(Rulings(PAIR, rows).choice_rows(), (0, 3))
        self.assertEqual(Rulings(PAIR, rows[1:3]).choice_rows(), ())
        self.assertEqual(Rulings(PAIR).choice_rows(), ())
        # This does not depend on the number of issues in play.
        for parts in [((0,), None), (None, (1,)), ((1,), (1,))]:
            rows = [(parts, mode, grade) for mode in ("any", "all") for grade in (0, 1)]
            choice = tuple(k for k, ruling in enumerate(rows) if not plain_ruling(ruling))
            self.assertEqual(Rulings(PAIR, rows).choice_rows(), choice)

    def test_the_same_ruling_several_times(self):
        row = (((0,), (1,)), "any", 1)
        rulings = Rulings(PAIR, [row] * 6)
        self.assertEqual((rulings.rows, rulings.choice_rows()), ((row,) * 6, (0, 1, 2, 3, 4, 5)))

    def test_added(self):
        rulings = Rulings(PAIR, [(((0,), None), "all", 1)])
        more = rulings.added(parts=(None, (1,)), mode="any", grade=0)
        self.assertIs(more.suit, PAIR)
        self.assertEqual(more.rows, ((((0,), None), "all", 1), ((None, (1,)), "any", 0)))
        self.assertEqual(len(rulings.rows), 1)
        full = Rulings(PAIR, rulings.rows * 5).added(*rulings.rows[0])
        self.assertEqual(len(full.rows), 6)
        for row, error in [
            (rulings.rows[0], TooLarge), ((((0,), None), "all", 2), NoGrade), (((None, None), "all", 1), NoCase),
            (((None, None), "any", -1), NoCase),
        ]:
            with self.assertRaises(error):
                full.added(*row)

    def test_errors_in_order(self):
        good = (((0,), None), "all", 1)
        for wrong in WRONG_PARTS:
            for rows in ([(wrong, "all", 1)], [good, (wrong, "any", 0)], [good] * 6 + [(wrong, "all", 2)],
                         [(((0,), None), "any", 3), (wrong, "all", 1)]):
                with self.assertRaises(NoCase):
                    Rulings(PAIR, rows)
            with self.assertRaises(NoCase):
                Rulings(PAIR).added(wrong, "all", 5)
        for grade in (-1, 2, HUGE, -HUGE):
            for rows in ([(((0,), None), "all", grade)], [good] * 6 + [(((0,), None), "any", grade)]):
                with self.assertRaises(NoGrade):
                    Rulings(PAIR, rows)
        for rows in ([good] * 7, (good,) * 20):
            with self.assertRaises(TooLarge):
                Rulings(PAIR, rows)
