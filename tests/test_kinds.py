"""Single, ranked and weighing judges (points 46 to 48)."""

import unittest

from settledcases.book import Book
from settledcases.errors import NoCase, NoJudge, NoRow, OtherForum
from settledcases.forum import Forum
from settledcases.judges import Judge
from settledcases.kinds import KINDS, RankedJudge, SingleJudge, WeighingJudge
from tests.support import FORUMS, HUGE, all_cases, is_beneath

AB = Forum("ab")
ABC = Forum("abc")
MIXED = Forum("a", "m", (2,))
NO_CASES = [(), (0,), (0, 0, 0, 0), (2, 0, 0), (0, -1, 0), (0, 0, HUGE)]


def reaches(forum, case, step):
    """Whether the case reaches the step, by counting."""
    steps = [(place, level) for place, limit in enumerate(forum.limits) for level in range(1, limit + 1)]
    place, level = steps[step]
    return case[place] >= level


def judges_of(forum):
    """Some judges of each kind."""
    many = len(forum.steps)
    yield from [SingleJudge(forum, step) for step in range(many)]
    for default in (0, 1):
        yield RankedJudge(forum, [], default)
        yield RankedJudge(forum, [(step, (step + default) % 2) for step in reversed(range(many))], default)
    for bar in (-1, 0, 1, many, 2 * many):
        yield WeighingJudge(forum, range(many), bar)


class KindsTest(unittest.TestCase):
    """Point 46."""

    def test_kinds(self):
        self.assertEqual(KINDS, ("single", "ranked", "weighing", "rising"))
        self.assertIsInstance(KINDS, tuple)
        self.assertEqual((SingleJudge.KIND, RankedJudge.KIND, WeighingJudge.KIND), KINDS[:3])
        for kind, own in [(SingleJudge, ()), (RankedJudge, ("ground_for",)), (WeighingJudge, ("weight_of",))]:
            self.assertTrue(issubclass(kind, Judge))
            for name in ("grade_of",) + own:
                self.assertIn(name, vars(kind))

    def test_inherited_methods(self):
        for forum in FORUMS:
            cases = all_cases(forum)
            for judge in judges_of(forum):
                self.assertIs(judge.forum, forum)
                self.assertEqual(judge.top, 1)
                table = judge.table()
                self.assertEqual(table, tuple(judge(case) for case in cases))
                self.assertEqual(table, tuple(judge.grade_of(case) for case in cases))
                self.assertTrue(all(grade in (0, 1) and not isinstance(grade, bool) for grade in table))
                for x in cases:
                    for y in cases:
                        self.assertTrue(judge(x) <= judge(y) or not is_beneath(x, y))
                decisions = list(zip(cases, table))[-9:]
                self.assertTrue(judge.keeps(Book(forum, 1, decisions)))
                self.assertIsNone(judge.first_break(Book(forum, 1, decisions)))
                broken = Book(forum, 1, decisions + [(cases[0], 1 - table[0])])
                self.assertFalse(judge.keeps(broken))
                self.assertEqual(judge.first_break(broken), len(decisions))

    def test_parting(self):
        for forum in FORUMS[:6]:
            for one in judges_of(forum):
                for other in judges_of(forum):
                    parted = [case for case in all_cases(forum) if one(case) != other(case)]
                    self.assertEqual(one.parting(other), parted[0] if parted else None)

    def test_other_forums_and_tops(self):
        for judge in judges_of(AB):
            for other in (Book(AB, 2), Book(ABC)):
                with self.assertRaises(OtherForum):
                    judge.first_break(other)
                with self.assertRaises(OtherForum):
                    judge.keeps(other)
            for other in (Judge(AB, 2), SingleJudge(ABC, 0)):
                with self.assertRaises(OtherForum):
                    judge.parting(other)

    def test_no_case(self):
        for forum in (ABC, MIXED):
            for judge in judges_of(forum):
                for wrong in NO_CASES[:-1] + [(0, 0, 3)]:
                    with self.assertRaises(NoCase):
                        judge(wrong)


class SingleJudgeTest(unittest.TestCase):
    """Point 47."""

    def test_fields(self):
        judge = SingleJudge(forum=MIXED, step=3)
        self.assertEqual((judge.step, judge.top, judge.forum), (3, 1, MIXED))

    def test_grades(self):
        self.assertEqual(SingleJudge(AB, 0).table(), (0, 0, 1, 1))
        self.assertEqual(SingleJudge(AB, 1).table(), (0, 1, 0, 1))
        for forum in FORUMS:
            for step in range(len(forum.steps)):
                judge = SingleJudge(forum, step)
                for case in all_cases(forum):
                    self.assertEqual(judge(case), 1 if reaches(forum, case, step) else 0)

    def test_no_step(self):
        for forum in FORUMS:
            for step in (-1, len(forum.steps), HUGE, -HUGE):
                with self.assertRaises(NoRow):
                    SingleJudge(forum, step)


class RankedJudgeTest(unittest.TestCase):
    """Point 47."""

    def test_fields(self):
        grounds = [(1, 0), (0, 1)]
        judge = RankedJudge(forum=AB, grounds=grounds, default=1)
        grounds[0] = (0, 0)
        grounds.append((5, 5))
        self.assertEqual((judge.grounds, judge.default, judge.top, judge.forum), (((1, 0), (0, 1)), 1, 1, AB))
        self.assertEqual(judge.table(), (0, 1, 0, 1))

    def test_no_grounds(self):
        for default in (0, 1):
            judge = RankedJudge(AB, [], default)
            self.assertEqual((judge.grounds, judge.table()), ((), (default,) * 4))
            self.assertIsNone(judge.ground_for((0, 1)))

    def test_grades(self):
        self.assertEqual(RankedJudge(AB, [(0, 1)], 0).table(), (0, 0, 1, 1))
        self.assertEqual(RankedJudge(AB, [(0, 0)], 1).table(), (0, 0, 1, 1))
        self.assertEqual(RankedJudge(AB, ((0, 0), (1, 0)), 1).table(), (0, 0, 0, 1))
        self.assertEqual(RankedJudge(AB, [(0, 1), (1, 1)], 0).table(), (0, 1, 1, 1))
        for forum in FORUMS:
            for judge in judges_of(forum):
                if judge.KIND != "ranked":
                    continue
                for case in all_cases(forum):
                    found = [k for k, (step, side) in enumerate(judge.grounds) if reaches(forum, case, step) == bool(side)]
                    self.assertEqual(judge.ground_for(case), found[0] if found else None)
                    self.assertEqual(judge(case), judge.grounds[found[0]][1] if found else judge.default)

    def test_ground_for(self):
        judge = RankedJudge(ABC, [(1, 0), (2, 1)], 0)
        self.assertEqual([judge.ground_for(case) for case in [(1, 0, 1), (0, 1, 1), (1, 1, 0)]], [0, 1, None])
        self.assertEqual(judge.ground_for(case=(1, 1, 1)), 1)
        for wrong in NO_CASES:
            with self.assertRaises(NoCase):
                judge.ground_for(wrong)
            with self.assertRaises(NoCase):
                RankedJudge(ABC, [], 0).ground_for(wrong)

    def test_errors_in_order(self):
        for step in (-1, 2, HUGE, -HUGE):
            for grounds, default in [([(step, 1)], 0), ([(0, 0), (step, 1)], 0), ([(step, 2), (step, 2)], 2)]:
                with self.assertRaises(NoRow):
                    RankedJudge(AB, grounds, default)
        with self.assertRaises(NoRow):
            RankedJudge(AB, [(0, 1), (0, 1), (1, 7), (2, 0)], 0)
        for grounds, default in [
            ([(0, 1), (0, 1)], 0), ([(0, 1), (1, 1), (0, 0)], 0), ([(0, 2)], 0), ([(0, 1), (1, -1)], 0), ([(0, HUGE)], 0),
            ([], 2), ([], -1), ([], HUGE), ([(0, 1)], -HUGE), ([(0, 2), (0, 2)], 2),
        ]:
            with self.assertRaises(NoJudge):
                RankedJudge(AB, grounds, default)


class WeighingJudgeTest(unittest.TestCase):
    """Point 48."""

    def test_fields(self):
        weights = [1, 2]
        judge = WeighingJudge(forum=AB, weights=weights, bar=2)
        weights[0] = 9
        weights.append(-3)
        self.assertEqual((judge.weights, judge.bar, judge.top, judge.forum), ((1, 2), 2, 1, AB))
        self.assertEqual(judge.table(), (0, 1, 0, 1))

    def test_bars(self):
        for bar, table in [
            (-HUGE, (1, 1, 1, 1)), (-1, (1, 1, 1, 1)), (0, (1, 1, 1, 1)), (1, (0, 1, 1, 1)), (2, (0, 1, 0, 1)),
            (3, (0, 0, 0, 1)), (4, (0, 0, 0, 0)), (HUGE, (0, 0, 0, 0)),
        ]:
            self.assertEqual(WeighingJudge(AB, (1, 2), bar).table(), table)
        self.assertEqual(WeighingJudge(AB, [HUGE, HUGE + 1], HUGE + 1).table(), (0, 1, 0, 1))
        self.assertEqual(WeighingJudge(AB, [0, 0], 0).table(), (1, 1, 1, 1))

    def test_weights(self):
        judge = WeighingJudge(MIXED, [5, 0, 2, 4], 7)
        self.assertEqual([judge.weight_of(case) for case in [(0, 0, 0), (0, 1, 1), (1, 0, 1), (1, 1, 2)]], [0, 2, 7, 11])
        self.assertEqual([judge(case) for case in [(0, 0, 2), (1, 0, 1), (1, 1, 2)]], [0, 1, 1])
        for forum in FORUMS:
            weights = [3 * k * k + 1 for k in range(len(forum.steps))]
            judge = WeighingJudge(forum, weights, 13)
            for case in all_cases(forum):
                expected = sum(weights[k] for k in range(len(weights)) if reaches(forum, case, k))
                self.assertEqual(judge.weight_of(case), expected)
                self.assertEqual(judge(case), 1 if expected >= 13 else 0)

    def test_no_case(self):
        for wrong in NO_CASES:
            with self.assertRaises(NoCase):
                WeighingJudge(ABC, [0, 0, 0], 0).weight_of(wrong)

    def test_no_judge(self):
        for weights in [[], [1], [1, 1, 1], [-1, 1], [1, -1], [-HUGE, 1], [1, 1, -1], [-1], (1, 2, 3)]:
            with self.assertRaises(NoJudge):
                WeighingJudge(AB, weights, 0)
        with self.assertRaises(NoJudge):
            WeighingJudge(MIXED, [1, 1, 1], 0)
