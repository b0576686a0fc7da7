"""Rules and narrowing (points 40 to 44)."""

import random
import unittest

from settledcases.errors import Bound, NoCase, NoGrade, NoRule, TooLarge
from settledcases.forum import Forum
from settledcases.rules import Rules, narrowed
from tests.support import FORUMS, HUGE, all_cases, is_beneath

ABC = Forum("abc")
MIXED = Forum("a", "m", (3,))


def speaks(row, case):
    """Whether the ruled row speaks for the case, by counting."""
    _, rule, grade = row
    return is_beneath(rule, case) if grade == 1 else is_beneath(case, rule)


def all_ruled(forum):
    """All ruled rows of the forum."""
    cases = all_cases(forum)
    for grade in (0, 1):
        for case in cases:
            for rule in cases:
                if is_beneath(rule, case) if grade == 1 else is_beneath(case, rule):
                    yield case, rule, grade


def sample_ruled(forum, count, seed):
    """Ruled rows, always the same ones for the same arguments."""
    rows = list(all_ruled(forum))
    return random.Random(f"{forum.text} {count} {seed}").choices(rows, k=count)


def decided(forum, rows):
    """A Rules object with those of the rows that can be decided, and these rows."""
    rules, told = Rules(forum), []
    for row in rows:
        try:
            rules.decide(*row)
            told.append(row)
        except Bound:
            pass
    return rules, told


class NarrowedTest(unittest.TestCase):
    """Points 40 and 41."""

    def test_won_rows(self):
        row = ((1, 1, 0), (0, 0, 0), 1)
        self.assertEqual(narrowed(row, (0, 1, 1)), ((1, 1, 0), (1, 0, 0), 1))
        self.assertEqual(narrowed(row, (0, 0, 0)), ((1, 1, 0), (1, 0, 0), 1))
        self.assertEqual(narrowed(row, (1, 0, 1)), ((1, 1, 0), (0, 1, 0), 1))
        self.assertEqual(narrowed(((1, 1, 0), (1, 0, 0), 1), (0, 1, 1)), ((1, 1, 0), (1, 0, 0), 1))

    def test_lost_rows(self):
        row = ((0, 0, 1), (1, 1, 1), 0)
        self.assertEqual(narrowed(row, (1, 0, 0)), ((0, 0, 1), (0, 1, 1), 0))
        self.assertEqual(narrowed(row, (1, 1, 1)), ((0, 0, 1), (0, 1, 1), 0))
        self.assertEqual(narrowed(row, (0, 1, 0)), ((0, 0, 1), (1, 0, 1), 0))
        self.assertEqual(narrowed(((0, 0, 1), (0, 1, 1), 0), (1, 0, 0)), ((0, 0, 1), (0, 1, 1), 0))

    def test_scales(self):
        self.assertEqual(narrowed(((1, 0, 3), (0, 0, 0), 1), (1, 1, 1)), ((1, 0, 3), (0, 0, 2), 1))
        self.assertEqual(narrowed(((1, 0, 3), (0, 0, 1), 1), (0, 1, 2)), ((1, 0, 3), (1, 0, 1), 1))
        self.assertEqual(narrowed(((1, 0, 0), (1, 1, 3), 0), (1, 0, 2)), ((1, 0, 0), (1, 1, 1), 0))
        self.assertEqual(narrowed(((1, 0, 0), (1, 1, 3), 0), (1, 1, 2)), ((1, 0, 0), (1, 0, 3), 0))

    def test_rows_that_cannot_be_narrowed(self):
        for row, case in [
            (((1, 0, 0), (0, 0, 0), 1), (1, 0, 0)), (((1, 0, 0), (1, 0, 0), 1), (1, 1, 0)),
            (((1, 0, 0), (1, 1, 0), 0), (1, 0, 0)), (((1, 0, 0), (1, 0, 0), 0), (0, 0, 0)),
        ]:
            with self.assertRaises(NoRule):
                narrowed(row, case)

    def test_all_rows_and_cases(self):
        for forum in FORUMS[:9]:
            for row in all_ruled(forum):
                for case in all_cases(forum):
                    own, rule, grade = row
                    behind = is_beneath(own, case) if grade == 1 else is_beneath(case, own)
                    if not speaks(row, case):
                        self.assertEqual(narrowed(row, case), row)
                    elif behind:
                        with self.assertRaises(NoRule):
                            narrowed(row, case)
                    else:
                        again = narrowed(row, case)
                        self.assertIsInstance(again, tuple)
                        self.assertEqual((again[0], again[2]), (own, grade))
                        self.assertFalse(speaks(again, case))
                        self.assertTrue(speaks(again, own))
                        sign = 1 if grade == 1 else -1
                        first = [k for k in range(len(own)) if sign * own[k] > sign * case[k]][0]
                        expected = list(rule)
                        expected[first] = case[first] + sign
                        self.assertEqual(again[1], tuple(expected))


class DecideTest(unittest.TestCase):
    """Points 42 and 43."""

    def test_example(self):
        rules = Rules(ABC, [((1, 1, 0), (1, 0, 0), 1)])
        self.assertEqual(rules.decide((1, 0, 1), (1, 0, 1), 0), (0,))
        self.assertEqual(rules.rows[0], ((1, 1, 0), (1, 1, 0), 1))

    def test_new_object(self):
        rules = Rules(ABC)
        self.assertIs(rules.forum, ABC)
        self.assertEqual((rules.rows, rules.told), ((), ()))
        self.assertEqual(Rules(forum=ABC, rows=[]).decide(case=(1, 0, 0), rule=(0, 0, 0), grade=1), ())

    def test_the_new_row_is_narrowed_first(self):
        rules = Rules(ABC, [((1, 0, 0), (1, 0, 0), 1), ((0, 1, 0), (0, 0, 0), 1)])
        # The new rule is narrowed to (0, 1, 1) and then to (0, 0, 1), against which the second row is narrowed.
        self.assertEqual(rules.decide((0, 0, 1), (1, 1, 1), 0), (1, 2))
        self.assertEqual(rules.rows, (
            ((1, 0, 0), (1, 0, 0), 1), ((0, 1, 0), (0, 1, 0), 1), ((0, 0, 1), (0, 0, 1), 0)))
        self.assertEqual(rules.told, (
            ((1, 0, 0), (1, 0, 0), 1), ((0, 1, 0), (0, 0, 0), 1), ((0, 0, 1), (1, 1, 1), 0)))

    def test_nothing_is_narrowed(self):
        rules = Rules(ABC, [((1, 0, 0), (1, 0, 0), 1)])
        self.assertEqual(rules.decide((0, 1, 0), (0, 1, 1), 0), ())
        self.assertEqual(rules.decide((1, 0, 1), (0, 0, 1), 1), (1,))
        self.assertEqual(rules.decide((1, 1, 1), (0, 0, 0), 1), (3,))

    def test_the_same_case_with_the_same_grade(self):
        rules = Rules(ABC, [((1, 0, 0), (1, 0, 0), 1)])
        self.assertEqual(rules.decide((1, 0, 0), (1, 0, 0), 1), ())
        self.assertEqual(rules.decide((1, 0, 0), (0, 0, 0), 1), ())
        self.assertEqual(len(rules.rows), 3)
        with self.assertRaises(Bound):
            rules.decide((1, 0, 0), (1, 0, 0), 0)

    def test_rounds(self):
        for forum in FORUMS:
            for seed in range(12):
                rules, told = Rules(forum), []
                for case, rule, grade in sample_ruled(forum, 14, seed):
                    earlier = list(rules.rows)
                    quarrel = [
                        k for k, (old, _, side) in enumerate(earlier)
                        if side != grade and (is_beneath(case, old) if grade == 1 else is_beneath(old, case))]
                    if len(earlier) == 10 or quarrel:
                        with self.assertRaises(TooLarge if len(earlier) == 10 else Bound) as caught:
                            rules.decide(case, rule, grade)
                        if len(earlier) < 10:
                            self.assertEqual(caught.exception.row, quarrel[0])
                        self.assertEqual(rules.rows, tuple(earlier))
                        self.assertEqual(rules.told, tuple(told))
                        continue
                    expected = (case, rule, grade)
                    for old, _, side in earlier:
                        expected = expected if side == grade else narrowed(expected, old)
                    rest = [row if row[2] == grade else narrowed(row, expected[1]) for row in earlier] + [expected]
                    before = earlier + [(case, rule, grade)]
                    changed = tuple(k for k in range(len(before)) if before[k] != rest[k])
                    self.assertEqual(rules.decide(case, rule, grade), changed)
                    told.append((case, rule, grade))
                    self.assertEqual((rules.rows, rules.told), (tuple(rest), tuple(told)))
                    for _, won, _ in [row for row in rest if row[2] == 1]:
                        for _, lost, _ in [row for row in rest if row[2] == 0]:
                            self.assertFalse(is_beneath(won, lost))

    def test_each_error(self):
        rules = Rules(ABC, [((1, 0, 0), (1, 0, 0), 1), ((1, 0, 0), (1, 0, 0), 1), ((0, 1, 1), (0, 1, 1), 0)])
        rows, told = rules.rows, rules.told
        for wrong, error in [
            (((1, 0), (1, 0, 0), 1), NoCase), (((1, 0, 2), (1, 0, 0), 1), NoCase), (((1, 0, 0), (), 1), NoCase),
            (((1, 0, 0), (1, 0, -1), 1), NoCase), (((HUGE, 0, 0), (HUGE, 0, 0), 1), NoCase),
            (((1, 1, 0), (1, 0, 0), 2), NoGrade), (((1, 1, 0), (1, 0, 0), -1), NoGrade),
            (((1, 1, 0), (1, 0, 0), HUGE), NoGrade),
            (((1, 1, 0), (0, 0, 1), 1), NoRule), (((1, 1, 0), (1, 1, 1), 1), NoRule),
            (((0, 0, 1), (1, 1, 0), 0), NoRule), (((0, 0, 1), (0, 0, 0), 0), NoRule),
            # Several at once.
            (((1, 0), (1, 0, 0), 2), NoCase), (((1, 1, 0), (1, 0, 2), 5), NoCase), (((1, 0, 0), (0, 1, 1), 2), NoGrade),
            (((1, 1, 0), (1, 0, 0), 0), NoRule), (((0, 0, 1), (1, 0, 0), 1), NoRule),
        ]:
            with self.assertRaises(error):
                rules.decide(*wrong)
            self.assertEqual((rules.rows, rules.told), (rows, told))

    def test_bound(self):
        rows = [((1, 0, 0), (1, 0, 0), 1), ((0, 1, 1), (0, 1, 1), 0), ((1, 0, 0), (1, 0, 0), 1), ((0, 1, 0), (0, 1, 0), 0)]
        rules = Rules(ABC, rows)
        for row, number in [
            (((1, 0, 0), (1, 0, 0), 0), 0), (((1, 1, 0), (1, 1, 1), 0), 0), (((0, 1, 1), (0, 1, 1), 1), 1),
            (((0, 0, 1), (0, 0, 0), 1), 1), (((0, 1, 0), (0, 0, 0), 1), 1),
        ]:
            with self.assertRaises(Bound) as caught:
                rules.decide(*row)
            self.assertEqual(caught.exception.row, number)
            with self.assertRaises(Bound) as caught:
                Rules(ABC, rows + [row])
            self.assertEqual(caught.exception.row, number)
        self.assertEqual(rules.rows, tuple(rows))

    def test_the_rules_do_not_matter_for_bound(self):
        rules = Rules(ABC, [((1, 1, 0), (0, 0, 0), 1)])
        # The new case is above the present rule, but not above the case.
        self.assertEqual(rules.decide((1, 0, 1), (1, 1, 1), 0), (0, 1))
        self.assertEqual(rules.rows, (((1, 1, 0), (0, 1, 0), 1), ((1, 0, 1), (1, 0, 1), 0)))

    def test_ten_rows(self):
        row = ((1, 0, 0), (1, 0, 0), 1)
        rules = Rules(ABC, [row] * 9)
        self.assertEqual(rules.decide(*row), ())
        self.assertEqual(rules.rows, (row,) * 10)
        for wrong, error in [
            (row, TooLarge), (((0, 0, 0), (0, 1, 0), 0), TooLarge), (((1, 0, 0), (1, 0, 0), 0), TooLarge),
            (((1, 0, 0), (0, 1, 0), 1), NoRule), (((1, 0, 0), (1, 0, 0), 2), NoGrade), (((1, 0), (1, 0, 0), 1), NoCase),
        ]:
            with self.assertRaises(error):
                rules.decide(*wrong)
        self.assertEqual((rules.rows, rules.told), ((row,) * 10, (row,) * 10))


class RulesTest(unittest.TestCase):
    """Points 42 and 44."""

    def test_rows_are_decided_in_order(self):
        for forum in FORUMS:
            for seed in range(6):
                rules, told = decided(forum, sample_ruled(forum, 10, seed))
                for rows in (told, tuple(told)):
                    again = Rules(forum, rows)
                    self.assertEqual((again.rows, again.told), (rules.rows, rules.told))
                    self.assertEqual(again.told, tuple(told))

    def test_errors_in_order(self):
        good, lost = ((1, 0, 0), (1, 0, 0), 1), ((1, 0, 0), (1, 0, 0), 0)
        side, grade, case = ((1, 0, 0), (0, 1, 0), 1), ((1, 0, 0), (1, 0, 0), 2), ((1, 0), (1, 0, 0), 1)
        rule = ((1, 0, 0), (1, 0, 3), 1)
        for rows, error in [
            ([good, lost], Bound), ([lost, good, good], Bound), ([good] * 10 + [lost], TooLarge), ([lost] * 11, TooLarge),
            ([good, lost] + [good] * 9, TooLarge), ([good, lost] + [good] * 8, Bound),
            ([good] * 11 + [side], NoRule), ([good, lost, side], NoRule), ([side, good, grade], NoGrade),
            ([good] * 11 + [grade], NoGrade), ([grade, side, case], NoCase), ([grade, lost, rule], NoCase),
            ([side] * 12 + [rule], NoCase),
        ]:
            with self.assertRaises(error):
                Rules(ABC, rows)

    def test_list_may_be_changed_later(self):
        rows = [((1, 1, 0), (0, 0, 0), 1), ((1, 0, 1), (1, 1, 1), 0)]
        kept = list(rows)
        rules = Rules(ABC, rows)
        self.assertEqual(rows, kept)
        rows.clear()
        self.assertEqual(rules.told, tuple(kept))
        rules.decide((0, 0, 1), (0, 0, 1), 0)
        self.assertEqual((rows, len(rules.rows)), ([], 3))
        copied = Rules(ABC, rules.told)
        copied.decide((0, 0, 1), (0, 0, 1), 0)
        self.assertEqual((len(rules.told), len(copied.told)), (3, 4))

    def test_books(self):
        for forum in FORUMS:
            rules, told = decided(forum, sample_ruled(forum, 10, 3))
            for book, rows in [
                (rules.case_book(), [(case, grade) for case, _, grade in told]),
                (rules.rule_book(), [(rule, grade) for _, rule, grade in rules.rows]),
                (rules.told_book(), [(rule, grade) for _, rule, grade in told]),
            ]:
                self.assertEqual((book.forum.text, book.top, book.rows), (forum.text, 1, tuple(rows)))
        rules = Rules(ABC, [((1, 1, 0), (0, 0, 0), 1), ((1, 0, 1), (1, 1, 1), 0)])
        self.assertEqual(rules.case_book().rows, (((1, 1, 0), 1), ((1, 0, 1), 0)))
        self.assertEqual(rules.rule_book().rows, (((0, 1, 0), 1), ((1, 0, 1), 0)))
        self.assertEqual(rules.told_book().rows, (((0, 0, 0), 1), ((1, 1, 1), 0)))

    def test_speaking(self):
        rules = Rules(ABC, [((1, 1, 0), (0, 0, 0), 1), ((1, 0, 1), (1, 1, 1), 0), ((1, 1, 1), (0, 1, 0), 1)])
        self.assertEqual([rules.speaking(case) for case in [(1, 1, 1), (0, 0, 1), (0, 1, 0)]], [(0, 2), (1,), (0, 2)])
        self.assertEqual(Rules(ABC).speaking((1, 1, 1)), ())
        for forum in FORUMS[:9]:
            rules, _ = decided(forum, sample_ruled(forum, 10, 5))
            for case in all_cases(forum):
                expected = tuple(k for k, row in enumerate(rules.rows) if speaks(row, case))
                self.assertEqual(rules.speaking(case), expected)
        for wrong in [(), (1, 0), (1, 0, 2), (0, 0, -1), (HUGE, 0, 0)]:
            with self.assertRaises(NoCase):
                Rules(ABC).speaking(wrong)
