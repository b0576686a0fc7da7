"""Neighbors and chains (point 15)."""

import unittest

from settledcases.errors import NoCase
from settledcases.forum import Forum
from settledcases.neighbors import shortest_chain, stronger_by_one, weaker_by_one
from tests.support import FORUMS, HUGE, all_cases, is_beneath


class NeighborsTest(unittest.TestCase):
    def test_examples(self):
        forum = Forum("a", "m", (2,))
        self.assertEqual(stronger_by_one(forum, (0, 1, 1)), [(0, 1, 2), (1, 1, 1)])
        self.assertEqual(weaker_by_one(forum, (0, 1, 1)), [(0, 0, 1), (0, 1, 0)])
        self.assertEqual(stronger_by_one(forum, (1, 1, 2)), [])
        self.assertEqual(weaker_by_one(forum, (0, 0, 0)), [])

    def test_all_cases(self):
        for forum in FORUMS:
            cases = all_cases(forum)
            for case in cases:
                stronger = [x for x in cases if is_beneath(case, x) and sum(x) == sum(case) + 1]
                weaker = [x for x in cases if is_beneath(x, case) and sum(x) == sum(case) - 1]
                self.assertEqual(stronger_by_one(forum, case), stronger)
                self.assertEqual(weaker_by_one(forum, case), weaker)

    def test_no_case(self):
        forum = Forum("a", "", (2,))
        for wrong in [(), (0,), (0, 3), (-1, 0), (0, 0, 0), (0, HUGE)]:
            for asked in (stronger_by_one, weaker_by_one):
                with self.assertRaises(NoCase):
                    asked(forum, wrong)


class ChainTest(unittest.TestCase):
    def test_examples(self):
        forum = Forum("ab", "", (2,))
        chain = [(0, 1, 0), (1, 1, 0), (1, 1, 1), (1, 1, 2)]
        self.assertEqual(shortest_chain(forum, (0, 1, 0), (1, 1, 2)), chain)
        self.assertEqual(shortest_chain(forum, (0, 1, 0), (0, 1, 0)), [(0, 1, 0)])
        self.assertEqual(shortest_chain(forum, (0, 1, 0), (1, 0, 2)), [])
        self.assertEqual(shortest_chain(forum, (1, 1, 0), (0, 1, 0)), [])

    def test_all_pairs(self):
        for forum in FORUMS[:10]:
            for low in all_cases(forum):
                for high in all_cases(forum):
                    expected = []
                    if is_beneath(low, high):
                        expected = [low]
                        while expected[-1] != high:
                            levels = list(expected[-1])
                            first = [k for k in range(len(levels)) if levels[k] < high[k]][0]
                            levels[first] += 1
                            expected.append(tuple(levels))
                    self.assertEqual(shortest_chain(forum, low, high), expected)

    def test_no_case(self):
        forum = Forum("ab")
        for wrong in [(), (0,), (0, 2), (0, -1), (0, 0, 0)]:
            with self.assertRaises(NoCase):
                shortest_chain(forum, wrong, (1, 1))
            with self.assertRaises(NoCase):
                shortest_chain(forum, (1, 1), wrong)
