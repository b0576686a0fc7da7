"""Strength of cases (point 8)."""

import unittest
from itertools import combinations

from settledcases.errors import NoCase
from settledcases.forum import Forum
from settledcases.order import at_least, between, join_of, meet_of, strongest, weakest
from tests.support import FORUMS, all_cases, is_beneath


class StrengthTest(unittest.TestCase):
    def test_at_least(self):
        self.assertIs(at_least((1, 0), (1, 0)), True)
        self.assertIs(at_least((1, 1), (0, 1)), True)
        self.assertIs(at_least((0, 1), (1, 1)), False)
        self.assertIs(at_least((1, 0), (0, 1)), False)
        self.assertIs(at_least((0, 1), (1, 0)), False)
        for forum in FORUMS:
            for x in all_cases(forum):
                for y in all_cases(forum):
                    self.assertIs(at_least(x, y), is_beneath(y, x))

    def test_join_and_meet(self):
        self.assertEqual(join_of((1, 0, 2), (0, 1, 1)), (1, 1, 2))
        self.assertEqual(meet_of((1, 0, 2), (0, 1, 1)), (0, 0, 1))
        for forum in FORUMS:
            cases = all_cases(forum)
            for x in cases:
                for y in cases:
                    above = [z for z in cases if is_beneath(x, z) and is_beneath(y, z)]
                    beneath = [z for z in cases if is_beneath(z, x) and is_beneath(z, y)]
                    self.assertTrue(all(is_beneath(join_of(x, y), z) for z in above))
                    self.assertTrue(all(is_beneath(z, meet_of(x, y)) for z in beneath))
                    self.assertIn(join_of(x, y), above)
                    self.assertIn(meet_of(x, y), beneath)


class ExtremesTest(unittest.TestCase):
    def test_examples(self):
        cases = [(1, 1), (1, 0), (0, 1), (1, 1), (0, 1)]
        self.assertEqual(weakest(cases), [(0, 1), (1, 0)])
        self.assertEqual(strongest(cases), [(1, 1)])
        self.assertEqual(cases, [(1, 1), (1, 0), (0, 1), (1, 1), (0, 1)])

    def test_none_one_and_equal_ones(self):
        self.assertEqual([weakest([]), strongest([]), weakest(()), strongest(())], [[], [], [], []])
        self.assertEqual([weakest([(2, 0)]), strongest(((2, 0),))], [[(2, 0)], [(2, 0)]])
        self.assertEqual([weakest([(1,), (1,)]), strongest([(1,), (1,)])], [[(1,)], [(1,)]])

    def test_all_small_lists(self):
        cases = all_cases(Forum("a", "", (2,)))
        for count in range(5):
            for chosen in combinations(cases, count):
                shuffled = list(reversed(chosen)) + list(chosen[:1])
                weak = [x for x in chosen if not any(y != x and is_beneath(y, x) for y in chosen)]
                strong = [x for x in chosen if not any(y != x and is_beneath(x, y) for y in chosen)]
                self.assertEqual(weakest(shuffled), weak)
                self.assertEqual(strongest(shuffled), strong)

    def test_lists_are_new(self):
        cases = [(0, 1), (1, 0)]
        weakest(cases).append(1)
        strongest(cases).append(1)
        self.assertEqual(cases, [(0, 1), (1, 0)])
        self.assertEqual(weakest(cases), [(0, 1), (1, 0)])


class BetweenTest(unittest.TestCase):
    def test_example(self):
        forum = Forum("a", "", (2,))
        self.assertEqual(between(forum, (0, 1), (1, 2)), [(0, 1), (0, 2), (1, 1), (1, 2)])
        self.assertEqual(between(forum, (1, 1), (1, 1)), [(1, 1)])
        self.assertEqual(between(forum, (1, 0), (0, 2)), [])
        self.assertEqual(between(forum, (1, 1), (0, 1)), [])

    def test_all_pairs(self):
        for forum in FORUMS[:9]:
            cases = all_cases(forum)
            for low in cases:
                for high in cases:
                    inside = [x for x in cases if is_beneath(low, x) and is_beneath(x, high)]
                    self.assertEqual(between(forum, low, high), inside)

    def test_no_case(self):
        forum = Forum("ab")
        for wrong in [(), (0,), (0, 2), (0, -1), (0, 0, 0)]:
            with self.assertRaises(NoCase):
                between(forum, wrong, (1, 1))
            with self.assertRaises(NoCase):
                between(forum, (0, 0), wrong)
