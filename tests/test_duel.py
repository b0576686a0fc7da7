"""Duels (point 88)."""

import unittest

from settledcases.book import Book
from settledcases.duel import duel_move, duel_value
from settledcases.errors import AtOdds, Finished, NoGrade, NotYesNo, TooLarge
from settledcases.forum import Forum
from tests.support import HUGE, is_beneath
from tests.test_asks import NINE, large_books, small_books, unsettled_by_hand

AB = Forum("ab")
QUARREL = [((1, 1), 0), ((0, 0), 0), ((0, 1), 1)]
NO_SIDES = (-1, 2, HUGE, -HUGE)


def after(cases, case, side):
    """What remains if the side brings the case, and how many cases are won by this."""
    if side == 1:
        rest = frozenset(other for other in cases if not is_beneath(case, other))
        return rest, len(cases) - len(rest)
    return frozenset(other for other in cases if not is_beneath(other, case)), 0


def value_by_hand(cases, side, known={}):
    """The number of cases that are won in the end, by the words of point 88."""
    if not cases:
        return 0
    if (cases, side) not in known:
        found = []
        for case in cases:
            rest, won = after(cases, case, side)
            found.append(won + value_by_hand(rest, 1 - side))
        known[(cases, side)] = max(found) if side == 1 else min(found)
    return known[(cases, side)]


class DuelTest(unittest.TestCase):
    def test_small_forums(self):
        # In a chain of n cases, side 1 wins all with its first move, and side 0 none of them.
        for forum in (Forum("a"), Forum("", "m"), Forum("", "", (3,))):
            self.assertEqual([duel_value(Book(forum), side) for side in (0, 1)], [0, forum.size])
            self.assertEqual([duel_move(Book(forum), side) for side in (0, 1)],
                             [forum.strongest_case, forum.weakest_case])
        book = Book(AB, 1, [((0, 0), 0), ((1, 1), 1)])
        self.assertEqual([duel_value(book, side) for side in (0, 1)], [1, 1])
        self.assertEqual([duel_move(book=book, side=side) for side in (0, 1)], [(0, 1), (0, 1)])

    def test_nothing_unsettled(self):
        book = Book(AB, 1, [((0, 0), 1)])
        for side in (0, 1):
            self.assertEqual(duel_value(book, side), 0)
            with self.assertRaises(Finished):
                duel_move(book, side)

    def test_many(self):
        later = 0
        for book in small_books():
            cases = frozenset(unsettled_by_hand(book))
            for side in (0, 1):
                value = value_by_hand(cases, side)
                self.assertEqual(duel_value(book=book, side=side), value)
                best = []
                for case in sorted(cases):
                    rest, won = after(cases, case, side)
                    best += [case] if won + value_by_hand(rest, 1 - side) == value else []
                if cases:
                    self.assertEqual(duel_move(book, side), best[0])
                    later += best[0] != min(cases) and len(best) > 1
        self.assertGreater(later, 3)

    def test_eight_and_nine_cases(self):
        self.assertEqual(duel_value(Book(Forum("abc")), 1), 8)
        for side in (0, 1):
            for found in (duel_value, duel_move):
                with self.assertRaises(TooLarge):
                    found(Book(NINE), side)

    def test_errors_in_order(self):
        for found in (duel_value, duel_move):
            for side in (0, 1) + NO_SIDES:
                for rows in ([], QUARREL):
                    with self.assertRaises(NotYesNo):
                        found(Book(AB, 2, rows), side)
            for side in NO_SIDES:
                for book in (Book(AB), Book(AB, 1, QUARREL), Book(NINE), Book(AB, 1, [((0, 0), 1)])):
                    with self.assertRaises(NoGrade):
                        found(book, side)
            for side in (0, 1):
                with self.assertRaises(AtOdds) as caught:
                    found(Book(AB, 1, QUARREL), side)
                self.assertEqual((caught.exception.low, caught.exception.high), (2, 0))
                for book in large_books():
                    with self.assertRaises(TooLarge):
                        found(book, side)
