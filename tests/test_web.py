"""Cheapest covers and greatest packings of webs (points 29 and 30)."""

import random
import unittest
from itertools import product

from settledcases.errors import NoPrice, NoRow
from settledcases.web import least_cover, most_apart
from tests.support import HUGE


def cheapest_covers(left, right, pairs):
    """All cheapest covers, each as a set of lefts and a set of rights, by trying all."""
    best, found = None, []
    for chosen in product((False, True), repeat=len(left) + len(right)):
        lefts = {i for i in range(len(left)) if chosen[i]}
        rights = {j for j in range(len(right)) if chosen[len(left) + j]}
        if all(i in lefts or j in rights for i, j in pairs):
            price = sum(left[i] for i in lefts) + sum(right[j] for j in rights)
            if best is None or price < best:
                best, found = price, []
            if price == best:
                found.append((lefts, rights))
    return best, found


def some_webs(largest, count):
    """Small webs, always the same ones."""
    source = random.Random("webs")
    for _ in range(count):
        left = [source.choice([1, 1, 1, 2, 3, 99]) for _ in range(source.randint(0, largest))]
        right = [source.choice([1, 1, 1, 2, 3, 99]) for _ in range(source.randint(0, largest))]
        every = list(product(range(len(left)), range(len(right))))
        yield left, right, [pair for pair in every if source.random() < 0.4]


class WebTest(unittest.TestCase):
    def check_packing(self, left, right, pairs, price):
        packing = most_apart(left, right, pairs)
        self.assertIsInstance(packing, list)
        self.assertEqual([pair for pair, _ in packing], sorted({pair for pair, _ in packing}))
        self.assertTrue({pair for pair, _ in packing} <= set(pairs))
        self.assertTrue(all(count >= 1 for _, count in packing))
        for i, limit in enumerate(left):
            self.assertLessEqual(sum(count for pair, count in packing if pair[0] == i), limit)
        for j, limit in enumerate(right):
            self.assertLessEqual(sum(count for pair, count in packing if pair[1] == j), limit)
        self.assertEqual(sum(count for _, count in packing), price)

    def price(self, left, right, cover):
        return sum(left[i] for i in cover[0]) + sum(right[j] for j in cover[1])

    def test_no_pairs_and_empty_sides(self):
        for left, right in [([], []), ([1, 2], []), ([], [99]), ([5, 1], [3])]:
            for high in (False, True):
                self.assertEqual(least_cover(left, right, [], high=high), ((), ()))
            self.assertEqual(most_apart(left, right, []), [])

    def test_one_pair(self):
        self.assertEqual(least_cover([3], [5], [(0, 0)]), ((0,), ()))
        self.assertEqual(least_cover([3], [5], [(0, 0)], high=True), ((0,), ()))
        self.assertEqual(least_cover([5], [3], [(0, 0)]), ((), (0,)))
        self.assertEqual(least_cover([4], [4], [(0, 0)]), ((0,), ()))
        self.assertEqual(least_cover([4], [4], [(0, 0)], high=True), ((), (0,)))
        self.assertEqual(most_apart([3], [5], [(0, 0)]), [((0, 0), 3)])

    def test_pairs_that_occur_several_times(self):
        pairs = [(1, 0), (0, 0), (1, 0), (1, 0), (0, 0)]
        self.assertEqual(least_cover([2, 2], [3], pairs), ((), (0,)))
        self.assertEqual(least_cover([1, 2], [3], pairs), ((0, 1), ()))
        self.check_packing([2, 2], [3], pairs, 3)
        self.assertEqual(pairs, [(1, 0), (0, 0), (1, 0), (1, 0), (0, 0)])

    def test_tuples_and_names(self):
        cover = least_cover(left=(1, 1), right=(1,), pairs=((0, 0), (1, 0)))
        self.assertEqual(cover, ((), (0,)))
        self.assertEqual(most_apart(left=(1,), right=(1,), pairs=((0, 0),)), [((0, 0), 1)])

    def test_small_webs(self):
        for left, right, pairs in some_webs(5, 200):
            price, covers = cheapest_covers(left, right, pairs)
            some = (set().union(*[c[0] for c in covers]), set().union(*[c[1] for c in covers]))
            every = (set(covers[0][0]).intersection(*[c[0] for c in covers]), set(covers[0][1]).intersection(*[c[1] for c in covers]))
            low = least_cover(left, right, pairs)
            high = least_cover(left, right, pairs, high=True)
            self.assertEqual(low, (tuple(sorted(some[0])), tuple(sorted(every[1]))))
            self.assertEqual(high, (tuple(sorted(every[0])), tuple(sorted(some[1]))))
            self.assertIn((set(low[0]), set(low[1])), covers)
            self.check_packing(left, right, pairs, price)

    def test_large_webs(self):
        source = random.Random("large webs")
        for share in (0.05, 0.2, 0.6, 1):
            left = [source.randint(1, 99) for _ in range(32)]
            right = [source.randint(1, 99) for _ in range(32)]
            pairs = [pair for pair in product(range(32), range(32)) if source.random() < share]
            low, high = least_cover(left, right, pairs), least_cover(left, right, pairs, high=True)
            for lefts, rights in (low, high):
                self.assertTrue(all(i in lefts or j in rights for i, j in pairs))
            price = self.price(left, right, low)
            self.assertEqual(self.price(left, right, high), price)
            self.assertTrue(set(high[0]) <= set(low[0]) and set(low[1]) <= set(high[1]))
            # No cover is cheaper than the sum of a packing.
            self.check_packing(left, right, pairs, price)

    def test_a_long_chain(self):
        left, right = [1] * 32, [1] * 32
        pairs = [(i, j) for i in range(32) for j in (i, i - 1) if j >= 0]
        self.assertEqual(least_cover(left, right, pairs), (tuple(range(32)), ()))
        self.assertEqual(least_cover(left, right, pairs, high=True), ((), tuple(range(32))))
        self.assertEqual(least_cover(left, right[:31], pairs[:-2] + [(31, 30)]), ((), tuple(range(31))))
        self.check_packing(left, right, pairs, 32)

    def test_no_row(self):
        for pair in [(2, 0), (0, 1), (-1, 0), (0, -1), (HUGE, 0), (0, -HUGE)]:
            for asked in (least_cover, most_apart):
                with self.assertRaises(NoRow):
                    asked([1, 1], [1], [(0, 0), pair])
        for asked in (least_cover, most_apart):
            with self.assertRaises(NoRow):
                asked([], [], [(0, 0)])

    def test_no_price(self):
        for price in (0, -1, 100, HUGE, -HUGE):
            for asked in (least_cover, most_apart):
                for left, right in [([1, price], [1]), ([1], [price, 1])]:
                    with self.assertRaises(NoPrice):
                        asked(left, right, [(0, 0)])
                    with self.assertRaises(NoPrice):
                        asked(left, right, [])
                    with self.assertRaises(NoRow):
                        asked(left, right, [(0, 0), (5, 0)])
        for price in (1, 99):
            self.assertEqual(most_apart([price], [99], [(0, 0)]), [((0, 0), price)])
            self.assertEqual(least_cover([99], [price, 99], [(0, 0)], high=True), ((), (0,)))
