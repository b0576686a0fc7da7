"""The widest rules (point 45)."""

import inspect
import unittest

from settledcases.errors import NoCase, NoGrade
from settledcases.forum import Forum
from settledcases.rules import Rules
from settledcases.widest import free_cases, widest_rules
from tests.support import FORUMS, HUGE, all_cases, is_beneath
from tests.test_rules import decided, sample_ruled, speaks

ABC = Forum("abc")


def harmless(rules, case, grade):
    """All harmless rules, by counting."""
    present = [rule for _, rule, other in rules.rows if other != grade]
    if grade == 1:
        return [rule for rule in all_cases(rules.forum) if is_beneath(rule, case)
                and all(not is_beneath(rule, lost) for lost in present)]
    return [rule for rule in all_cases(rules.forum) if is_beneath(case, rule)
            and all(not is_beneath(won, rule) for won in present)]


class WidestRulesTest(unittest.TestCase):
    def test_no_rows(self):
        self.assertEqual(widest_rules(Rules(ABC), (1, 0, 1), 1), [(0, 0, 0)])
        self.assertEqual(widest_rules(Rules(ABC), (1, 0, 1), 0), [(1, 1, 1)])

    def test_rows_of_one_grade(self):
        won = Rules(ABC, [((1, 1, 0), (1, 1, 0), 1)])
        self.assertEqual(widest_rules(won, (1, 0, 1), 1), [(0, 0, 0)])
        self.assertEqual(widest_rules(won, (0, 0, 1), 0), [(0, 1, 1), (1, 0, 1)])
        lost = Rules(ABC, [((0, 1, 0), (0, 1, 0), 0)])
        self.assertEqual(widest_rules(lost, (1, 0, 1), 1), [(0, 0, 1), (1, 0, 0)])
        self.assertEqual(widest_rules(lost, (1, 0, 1), 0), [(1, 1, 1)])

    def test_present_rules_count(self):
        rules = Rules(ABC, [((0, 1, 0), (0, 1, 1), 0)])
        self.assertEqual(widest_rules(rules, (1, 0, 1), 1), [(1, 0, 0)])
        rules.decide((0, 0, 1), (0, 0, 1), 1)
        self.assertEqual(rules.rows[0], ((0, 1, 0), (0, 1, 0), 0))
        self.assertEqual(widest_rules(rules, (1, 0, 1), 1), [(0, 0, 1), (1, 0, 0)])

    def test_no_harmless_rule(self):
        rules = Rules(ABC, [((0, 1, 0), (0, 1, 1), 0), ((1, 1, 0), (1, 0, 0), 1)])
        self.assertEqual(widest_rules(rules, (0, 0, 1), 1), [])
        self.assertEqual(widest_rules(rules, (1, 0, 1), 0), [])

    def test_many(self):
        for forum in FORUMS:
            for count in (0, 1, 3, 10):
                rules, _ = decided(forum, sample_ruled(forum, count, 1))
                for case in all_cases(forum):
                    rest = harmless(rules, case, 1)
                    expected = [x for x in rest if not any(y != x and is_beneath(y, x) for y in rest)]
                    self.assertEqual(widest_rules(rules, case, 1), expected)
                    rest = harmless(rules, case, 0)
                    expected = [x for x in rest if not any(y != x and is_beneath(x, y) for y in rest)]
                    self.assertEqual(widest_rules(rules, case, 0), expected)

    def test_changes_nothing(self):
        rules = Rules(ABC, [((0, 1, 0), (0, 1, 1), 0)])
        before = rules.rows
        widest_rules(rules, (1, 0, 1), 1).append((9, 9, 9))
        self.assertEqual((rules.rows, widest_rules(rules, (1, 0, 1), 1)), (before, [(1, 0, 0)]))

    def test_errors_in_order(self):
        rules = Rules(ABC, [((0, 1, 0), (0, 1, 1), 0)])
        for grade in (-1, 2, HUGE, -HUGE):
            with self.assertRaises(NoGrade):
                widest_rules(rules, (1, 0, 1), grade)
        for grade in (0, 1, 2):
            for wrong in [(), (1, 0), (1, 0, 2), (0, 0, -1), (HUGE, 0, 0)]:
                with self.assertRaises(NoCase):
                    widest_rules(rules, wrong, grade)


class FreeCasesTest(unittest.TestCase):
    def test_no_rows(self):
        self.assertEqual(list(free_cases(Rules(ABC))), all_cases(ABC))

    def test_none(self):
        self.assertEqual(list(free_cases(Rules(ABC, [((1, 0, 0), (0, 0, 0), 1)]))), [])
        self.assertEqual(list(free_cases(Rules(ABC, [((1, 0, 0), (1, 1, 1), 0)]))), [])

    def test_some(self):
        rules = Rules(ABC, [((1, 1, 0), (1, 0, 0), 1), ((0, 1, 0), (0, 1, 0), 0)])
        self.assertEqual(list(free_cases(rules)), [(0, 0, 1), (0, 1, 1)])

    def test_many(self):
        for forum in FORUMS:
            for seed in range(4):
                rules, _ = decided(forum, sample_ruled(forum, 4, seed))
                expected = [case for case in all_cases(forum) if not any(speaks(row, case) for row in rules.rows)]
                self.assertEqual(list(free_cases(rules)), expected)

    def test_generator(self):
        self.assertTrue(inspect.isgeneratorfunction(free_cases))
        self.assertEqual(next(free_cases(Rules(ABC))), (0, 0, 0))
