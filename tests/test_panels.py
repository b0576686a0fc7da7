"""Panels (points 60 and 61)."""

import unittest
from itertools import product

from settledcases.errors import NoCase, NoJudge, NotYesNo, OtherForum
from settledcases.forum import Forum
from settledcases.judges import CeilingJudge, FloorJudge, Judge
from settledcases.kinds import RankedJudge, SingleJudge, WeighingJudge
from settledcases.panels import Panel
from settledcases.suits import Rulings, Suit
from tests.support import all_cases, all_parts, decided_by, sample_rulings
from tests.test_suits import WRONG_PARTS

A = Forum("a")
B = Forum("b")
AB = Forum("ab")
PAIR = Suit([A, B])
TRIO = Suit([AB, A, Forum("", "m", (1,))])


def panels_of(suit):
    """Some panels of a suit."""
    makers = [
        lambda forum: SingleJudge(forum, 0), lambda forum: RankedJudge(forum, [], 1), lambda forum: WeighingJudge(forum, [1] * len(forum.steps), 1),
        lambda forum: CeilingJudge(forum, 1, [(forum.weakest_case, 0)]),
    ]
    for chosen in product(makers, repeat=len(suit.forums)):
        yield Panel(suit, [maker(forum) for maker, forum in zip(chosen, suit.forums)])


class PanelTest(unittest.TestCase):
    """Point 61."""

    def test_fields(self):
        judges = [SingleJudge(A, 0), Judge(B)]
        panel = Panel(suit=PAIR, judges=judges)
        kept = tuple(judges)
        judges.clear()
        self.assertIs(panel.suit, PAIR)
        self.assertIsInstance(panel.judges, tuple)
        self.assertTrue(all(one is other for one, other in zip(panel.judges, kept)) and len(panel.judges) == 2)

    def test_whole(self):
        panel = Panel(PAIR, (SingleJudge(A, 0), SingleJudge(B, 0)))
        for parts, as_all, as_any in [
            (((1,), (1,)), 1, 1), (((1,), (0,)), 0, 1), (((0,), (1,)), 0, 1), (((0,), (0,)), 0, 0),
            (((1,), None), 1, 1), (((0,), None), 0, 0), ((None, (1,)), 1, 1), ((None, (0,)), 0, 0),
        ]:
            self.assertEqual((panel(parts, "all"), panel(parts=parts, mode="any")), (as_all, as_any))

    def test_many_panels(self):
        for suit in (PAIR, TRIO, Suit([AB])):
            for panel in panels_of(suit):
                maps = [{case: judge(case) for case in all_cases(judge.forum)} for judge in panel.judges]
                for parts in all_parts(suit):
                    for mode in ("all", "any"):
                        self.assertEqual(panel(parts, mode), decided_by(maps, parts, mode))
                        self.assertNotIsInstance(panel(parts, mode), bool)

    def test_no_case(self):
        panel = Panel(PAIR, [SingleJudge(A, 0), Judge(B)])
        for wrong in WRONG_PARTS:
            for mode in ("all", "any"):
                with self.assertRaises(NoCase):
                    panel(wrong, mode)

    def test_errors_in_order(self):
        a, b, wide, other = Judge(A), Judge(B), Judge(A, 2), Judge(AB)
        for judges in [[], [a], [a, b, b], [a, b, other]]:
            with self.assertRaises(NoJudge):
                Panel(PAIR, judges)
        for judges in [[b, a], [a, other], [other, b], [b], [other], [b, b, b], [a, a, b], (a, other)]:
            with self.assertRaises(OtherForum):
                Panel(PAIR, judges)
        for judges in [[wide, b], [a, Judge(B, 4)], [wide], [a, b, wide], [b, wide], [other, other, FloorJudge(A, 3, [])]]:
            with self.assertRaises(NotYesNo):
                Panel(PAIR, judges)

    def test_the_same_forum_made_twice(self):
        panel = Panel(PAIR, [Judge(Forum("a")), Judge(Forum.read("b//"))])
        self.assertEqual(panel(((1,), (1,)), "any"), 0)


class KeepsTest(unittest.TestCase):
    """Points 60 and 61."""

    def test_each_mode_and_grade(self):
        panel = Panel(PAIR, [SingleJudge(A, 0), SingleJudge(B, 0)])
        parts = ((1,), (0,))
        self.assertTrue(panel.keeps(Rulings(PAIR, [(parts, "all", 0), (parts, "any", 1)])))
        self.assertEqual(panel.first_break(Rulings(PAIR, [(parts, "all", 0), (parts, "any", 0), (parts, "all", 1)])), 1)
        self.assertEqual(panel.first_break(Rulings(PAIR, [(parts, "all", 1), (parts, "any", 0)])), 0)
        self.assertIsNone(panel.first_break(Rulings(PAIR)))
        self.assertIs(panel.keeps(Rulings(PAIR)), True)

    def test_many_rulings(self):
        seen = set()
        for suit in (PAIR, TRIO, Suit([AB])):
            for number, panel in enumerate(panels_of(suit)):
                maps = [{case: judge(case) for case in all_cases(judge.forum)} for judge in panel.judges]
                for count in range(4):
                    rulings = Rulings(suit, sample_rulings(suit, count, number))
                    broken = [k for k, (parts, mode, grade) in enumerate(rulings) if decided_by(maps, parts, mode) != grade]
                    first = broken[0] if broken else None
                    self.assertEqual(panel.first_break(rulings), first)
                    self.assertIs(panel.keeps(rulings), first is None)
                    seen.add(first)
        self.assertEqual(seen, {None, 0, 1, 2})

    def test_another_suit(self):
        panel = Panel(PAIR, [SingleJudge(A, 0), SingleJudge(B, 0)])
        for suit in (Suit([A]), Suit([B, A]), Suit([A, B, B]), Suit([A, Forum("", "b")]), Suit([AB, B])):
            for asked in (panel.keeps, panel.first_break):
                with self.assertRaises(OtherForum):
                    asked(Rulings(suit))
        again = Suit([Forum("a"), Forum("b")])
        self.assertEqual(panel.first_break(Rulings(again, [(((0,), None), "all", 1)])), 0)
