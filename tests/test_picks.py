"""Known parts and sound picks (points 62 and 63)."""

import inspect
import unittest

from settledcases.forum import Forum
from settledcases.judges import FloorJudge
from settledcases.panels import Panel
from settledcases.picks import all_picks, first_picks, known_parts, panel_of
from settledcases.suits import Rulings, Suit
from tests.support import keeping_panels, known_by_hand, picks_by_hand, sample_rulings

A = Forum("a")
B = Forum("b")
PAIR = Suit([A, B])
TRIO = Suit([Forum("ab"), A, Forum("", "", (2,))])
SUITS = [Suit([Forum("ab")]), PAIR, TRIO, Suit([Forum("ab"), Forum("ab")])]
# The example of the trees, without sound picks, and its first two rulings.
ROWS = [(((0,), None), "all", 1), (((1,), (1,)), "all", 0), ((None, (0,)), "any", 1)]


class KnownPartsTest(unittest.TestCase):
    """Point 62."""

    def test_without_picks(self):
        self.assertEqual(known_parts(Rulings(PAIR, ROWS), (None, None, None)), [[(0, (0,), 1)], []])
        self.assertEqual(known_parts(Rulings(PAIR), ()), [[], []])

    def test_with_picks(self):
        rulings = Rulings(PAIR, ROWS)
        self.assertEqual(known_parts(rulings, (None, 0, None)), [[(0, (0,), 1), (1, (1,), 0)], []])
        self.assertEqual(known_parts(rulings, (None, 1, None)), [[(0, (0,), 1)], [(1, (1,), 0)]])
        self.assertEqual(known_parts(rulings=rulings, picks=(None, 1, 1)), [[(0, (0,), 1)], [(1, (1,), 0), (2, (0,), 1)]])

    def test_plain_rulings(self):
        rows = [(((0,), (1,)), "any", 0), (((1,), (0,)), "all", 1), (((0,), (1,)), "any", 0)]
        known = [[(0, (0,), 0), (1, (1,), 1), (2, (0,), 0)], [(0, (1,), 0), (1, (0,), 1), (2, (1,), 0)]]
        self.assertEqual(known_parts(Rulings(PAIR, rows), (None,) * 3), known)

    def test_lists_are_new(self):
        found = known_parts(Rulings(TRIO), ())
        self.assertEqual(len({id(entry) for entry in found}), 3)
        found[0].append("changed")
        self.assertEqual(known_parts(Rulings(TRIO), ()), [[], [], []])

    def test_many(self):
        for suit in SUITS:
            for seed in range(20):
                rulings = Rulings(suit, sample_rulings(suit, 4, seed))
                for picks in picks_by_hand(suit, rulings.rows)[:5]:
                    for at in range(5):
                        some = picks[:at] + (None,) * (4 - at)
                        self.assertEqual(known_parts(rulings, some), known_by_hand(suit, rulings.rows, some))


class AllPicksTest(unittest.TestCase):
    """Point 63."""

    def test_no_choice_ruling(self):
        self.assertEqual(list(all_picks(Rulings(PAIR))), [()])
        self.assertEqual(list(all_picks(Rulings(PAIR, ROWS[:1]))), [(None,)])
        quarrel = [(((0,), None), "all", 1), (((1,), (1,)), "any", 0)]
        self.assertEqual(list(all_picks(Rulings(PAIR, quarrel))), [])
        self.assertIsNone(first_picks(Rulings(PAIR, quarrel)))
        self.assertEqual(first_picks(Rulings(PAIR)), ())

    def test_examples(self):
        self.assertEqual(list(all_picks(Rulings(PAIR, ROWS))), [])
        self.assertEqual(list(all_picks(Rulings(PAIR, ROWS[:2]))), [(None, 1)])
        self.assertEqual(list(all_picks(Rulings(PAIR, ROWS[1:]))), [(0, 1)])
        self.assertEqual(first_picks(Rulings(PAIR, ROWS[1:2])), (0,))
        rows = [(((0,), (0,)), "all", 0), ((None, (0,)), "all", 1), (((1,), (1,)), "any", 1)]
        self.assertEqual(list(all_picks(Rulings(PAIR, rows))), [(0, None, 0), (0, None, 1)])

    def test_all_picks(self):
        seen = set()
        for suit in SUITS:
            for count in (1, 2, 3, 4, 6):
                for seed in range(12):
                    rulings = Rulings(suit, sample_rulings(suit, count, seed))
                    expected = picks_by_hand(suit, rulings.rows)
                    self.assertEqual(list(all_picks(rulings)), expected)
                    self.assertEqual(first_picks(rulings), expected[0] if expected else None)
                    seen.add(min(len(expected), 3))
        self.assertEqual(seen, {0, 1, 2, 3})

    def test_most_picks(self):
        suit = Suit([A, A, A])
        rulings = Rulings(suit, [(((1,), (1,), (1,)), "any", 1)] * 6)
        found = list(all_picks(rulings))
        self.assertEqual((len(found), found[0], found[1], found[-1]), (729, (0,) * 6, (0,) * 5 + (1,), (2,) * 6))
        self.assertEqual(found, sorted(found))

    def test_generator(self):
        self.assertTrue(inspect.isgeneratorfunction(all_picks))
        self.assertEqual(next(all_picks(Rulings(PAIR, ROWS[1:]))), (0, 1))

    def test_sound_picks_and_panels(self):
        """The panel of sound picks keeps the rulings, and there are sound picks if a panel keeps them."""
        for suit in [Suit([Forum("ab")]), PAIR, Suit([Forum("", "", (2,)), A])]:
            for count in (1, 3, 5):
                for seed in range(20):
                    rulings = Rulings(suit, sample_rulings(suit, count, seed))
                    found = list(all_picks(rulings))
                    self.assertEqual(bool(found), any(True for _ in keeping_panels(suit, rulings.rows)))
                    for picks in found:
                        self.assertTrue(panel_of(rulings, picks).keeps(rulings))


class PanelOfTest(unittest.TestCase):
    """Point 63."""

    def test_decisions(self):
        rulings = Rulings(PAIR, ROWS)
        panel = panel_of(rulings, (None, 1, 1))
        self.assertIsInstance(panel, Panel)
        self.assertEqual([judge.rows for judge in panel.judges], [(((0,), 1),), (((1,), 0), ((0,), 1))])
        for judge, forum in zip(panel.judges, (A, B)):
            self.assertIsInstance(judge, FloorJudge)
            self.assertEqual((judge.top, judge.forum.text), (1, forum.text))
        self.assertEqual([forum.text for forum in panel.suit.forums], ["a//", "b//"])

    def test_picks_that_are_not_sound(self):
        rulings = Rulings(PAIR, ROWS)
        panel = panel_of(rulings=rulings, picks=(None, 0, None))
        self.assertEqual([judge.rows for judge in panel.judges], [(((0,), 1), ((1,), 0)), ()])
        self.assertEqual(panel.first_break(rulings), 2)
        self.assertEqual([judge.rows for judge in panel_of(Rulings(PAIR), ()).judges], [(), ()])

    def test_many(self):
        for suit in SUITS:
            for seed in range(10):
                rulings = Rulings(suit, sample_rulings(suit, 5, seed))
                picks = tuple(None if row not in rulings.choice_rows() else
                              [issue for issue, part in enumerate(rulings.rows[row][0]) if part is not None][-1] for row in range(5))
                known = known_by_hand(suit, rulings.rows, picks)
                expected = [tuple((case, grade) for _, case, grade in parts) for parts in known]
                self.assertEqual([judge.rows for judge in panel_of(rulings, picks).judges], expected)
