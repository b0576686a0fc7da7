"""Unsettled cases in chains, and those of which none is beneath another one (points 86 and 87)."""

import unittest
from itertools import combinations

from settledcases.asks import fewest_asks
from settledcases.book import Book
from settledcases.chains import fewest_chains, widest
from settledcases.errors import AtOdds, NotYesNo
from settledcases.forum import Forum
from tests.support import FORUMS, all_cases, all_quarrels, is_beneath, quiet_books
from tests.test_asks import small_books, unsettled_by_hand

AB = Forum("ab")
FIVE = Forum("abcde")


def loose(cases):
    """Whether none of the cases is beneath another one."""
    return not any(is_beneath(x, y) for x in cases for y in cases if x != y)


def width_by_hand(cases):
    """The greatest number of cases of which none is beneath another one, for few cases."""
    sizes = [size for size in range(len(cases) + 1) if any(loose(chosen) for chosen in combinations(cases, size))]
    return max(sizes)


class ChainsTest(unittest.TestCase):
    def check(self, book):
        """Checks the chains and the widest set of the book, and returns the width."""
        cases, chains, wide = unsettled_by_hand(book), fewest_chains(book), widest(book)
        self.assertEqual(sorted(case for chain in chains for case in chain), cases)
        self.assertIsInstance(chains, list)
        for chain in chains:
            self.assertIsInstance(chain, list)
            self.assertGreater(len(chain), 0)
            for low, high in zip(chain, chain[1:]):
                self.assertTrue(is_beneath(low, high) and low != high)
        self.assertIsInstance(wide, list)
        self.assertEqual(wide, sorted(set(wide) & set(cases)))
        self.assertTrue(loose(wide))
        # No chain has two cases of a loose set, so neither can be improved if the numbers are the same.
        self.assertEqual(len(chains), len(wide))
        return len(wide)

    def test_many(self):
        seen = set()
        for book in quiet_books(FORUMS, (1,), (0, 1, 2, 3, 5, 10), 5):
            seen.add(self.check(book))
        self.assertTrue({0, 1, 2, 3, 6, 10} <= seen, seen)

    def test_forums_without_rows(self):
        for forum, width in [
            (Forum("a"), 1), (AB, 2), (Forum("abc"), 3), (Forum("abcd"), 6), (FIVE, 10), (Forum("ab", "cde"), 10),
            (Forum("", "", (3,)), 1), (Forum("", "", (2, 2)), 3), (Forum("", "", (3, 2)), 3),
            (Forum("a", "b", (3,)), 4),
        ]:
            self.assertEqual(self.check(Book(forum)), width)

    def test_numbers_by_hand(self):
        for book in small_books():
            self.assertEqual(len(widest(book=book)), width_by_hand(unsettled_by_hand(book)))
            self.assertEqual(len(fewest_chains(book=book)), width_by_hand(unsettled_by_hand(book)))

    def test_no_unsettled_case(self):
        for book in (Book(AB, 1, [((0, 0), 1)]), Book(AB, 1, [((1, 1), 0)]), Book(AB, 1, [((1, 0), 1), ((0, 1), 0)])):
            self.assertEqual([fewest_chains(book), widest(book)], [[], []])

    def test_fewest_asks(self):
        """Point 87."""
        for book in small_books():
            chains, asks = fewest_chains(book), fewest_asks(book)
            self.assertLessEqual(len(chains), asks)
            self.assertLessEqual(asks, sum(len(chain).bit_length() for chain in chains))

    def test_new_lists(self):
        book = Book(AB)
        for chain in fewest_chains(book):
            chain.clear()
        widest(book).clear()
        self.check(book)

    def test_errors(self):
        quarrel = [((1, 1), 0), ((0, 0), 0), ((0, 1), 1)]
        for top in (2, 3, 4):
            for rows in ([], quarrel):
                for found in (fewest_chains, widest):
                    with self.assertRaises(NotYesNo):
                        found(Book(AB, top, rows))
        self.assertEqual(all_quarrels(quarrel), [(2, 0)])
        for found in (fewest_chains, widest):
            with self.assertRaises(AtOdds) as caught:
                found(Book(AB, 1, quarrel))
            self.assertEqual((caught.exception.low, caught.exception.high), (2, 0))
        self.assertEqual(len(all_cases(FIVE)), 32)
