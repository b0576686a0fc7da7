"""What rulings settle, and forced picks (points 60, 66 and 67)."""

import unittest
from itertools import product

from settledcases.errors import NoCase, NoPanel, TooLarge
from settledcases.forum import Forum
from settledcases.issues import forced_picks, one_mode, ruling_status
from settledcases.panels import Panel
from settledcases.picks import all_picks
from settledcases.suits import Rulings, Suit
from settledcases.trees import panel_or_tree, tree_holds
from tests.support import all_parts, decided_by, keeping_panels, part_quarrels_by_hand, plain_ruling, sample_rulings
from tests.test_picks import PAIR, ROWS, SUITS
from tests.test_suits import WRONG_PARTS

A = Forum("a")
KEPT = Rulings(PAIR, ROWS[:2])
UNKEPT = Rulings(PAIR, ROWS)


def forced_by_hand(suit, rows):
    """The forced picks and the stuck ruling, by the words of point 67."""
    picks = (None,) * len(rows)
    odds = part_quarrels_by_hand(suit, rows, picks)
    if odds:
        return picks, min([number for _, won, lost in odds for number in (won, lost)])
    while True:
        for row, ruling in enumerate(rows):
            if plain_ruling(ruling) or picks[row] is not None:
                continue
            good = []
            for issue, part in enumerate(ruling[0]):
                if part is not None and not part_quarrels_by_hand(suit, rows, picks[:row] + (issue,) + picks[row + 1:]):
                    good.append(issue)
            if not good:
                return picks, row
            if len(good) == 1:
                picks = picks[:row] + (good[0],) + picks[row + 1:]
                break
        else:
            return picks, None


class RulingStatusTest(unittest.TestCase):
    """Point 66."""

    def test_example(self):
        self.assertEqual(ruling_status(KEPT, (None, (1,)), "all")[0], 0)

    def test_settled_and_unsettled(self):
        grade, tree = ruling_status(KEPT, (None, (1,)), "all")
        self.assertEqual((grade, tree), (0, panel_or_tree(KEPT.added((None, (1,)), "all", 1))))
        self.assertTrue(tree_holds(KEPT.added((None, (1,)), "all", 1), tree))
        self.assertEqual(ruling_status(KEPT, ((1,), None), "any")[0], 1)
        self.assertEqual(ruling_status(KEPT, ((1,), (1,)), "any")[0], 1)
        self.assertEqual(ruling_status(KEPT, ((1,), (1,)), mode="all")[0], 0)
        grade, (lost, won) = ruling_status(Rulings(PAIR), ((0,), (1,)), "any")
        self.assertEqual((grade, lost(((0,), (1,)), "any"), won(((0,), (1,)), "any")), (None, 0, 1))

    def test_all_panels(self):
        seen = set()
        for suit in [Suit([Forum("ab")]), PAIR, Suit([Forum("", "", (2,)), A])]:
            for count in (0, 1, 2, 4, 5):
                for seed in range(6):
                    rulings = Rulings(suit, sample_rulings(suit, count, seed))
                    panels = list(keeping_panels(suit, rulings.rows))
                    for parts, mode in product(list(all_parts(suit))[seed::3], ("all", "any")):
                        grades = {decided_by(judges, parts, mode) for judges in panels}
                        seen.add(tuple(sorted(grades)))
                        self.check(rulings, parts, mode, grades)
        self.assertEqual(seen, {(), (0,), (1,), (0, 1)})

    def check(self, rulings, parts, mode, grades):
        """Compares the status with the grades that the panels who keep the rulings give the whole."""
        if not grades:
            with self.assertRaises(NoPanel):
                ruling_status(rulings, parts, mode)
            return
        grade, rest = ruling_status(rulings, parts, mode)
        lost, won = (panel_or_tree(rulings.added(parts, mode, side)) for side in (0, 1))
        if len(grades) == 2:
            self.assertIsNone(grade)
            self.assertIsInstance(rest, tuple)
            for panel, expected, side in zip(rest, (lost, won), (0, 1)):
                self.assertIsInstance(panel, Panel)
                self.assertEqual([judge.rows for judge in panel.judges], [judge.rows for judge in expected.judges])
                self.assertEqual(panel(parts, mode), side)
                self.assertTrue(panel.keeps(rulings))
        else:
            self.assertEqual({grade}, grades)
            self.assertEqual(rest, lost if grade == 1 else won)
            self.assertTrue(tree_holds(rulings.added(parts, mode, 1 - grade), rest))

    def test_errors_in_order(self):
        full, full_kept = Rulings(PAIR, ROWS * 2), Rulings(PAIR, ROWS[:2] * 3)
        for wrong in WRONG_PARTS:
            for rulings in (KEPT, UNKEPT, full, full_kept):
                for mode in ("all", "any"):
                    with self.assertRaises(NoCase):
                        ruling_status(rulings, wrong, mode)
        for rulings in (full, full_kept):
            with self.assertRaises(TooLarge):
                ruling_status(rulings, ((0,), (1,)), "all")
        for parts in [((0,), (1,)), (None, (0,))]:
            for rulings in (UNKEPT, Rulings(PAIR, ROWS + ROWS[:2])):
                with self.assertRaises(NoPanel):
                    ruling_status(rulings, parts, "any")
        self.assertEqual(ruling_status(Rulings(PAIR, full_kept.rows[:5]), (None, (1,)), "all")[0], 0)


class ForcedPicksTest(unittest.TestCase):
    """Point 67."""

    def test_example(self):
        self.assertEqual(forced_picks(KEPT), ((None, 1), None))

    def test_no_rulings_and_no_choice(self):
        self.assertEqual(forced_picks(Rulings(PAIR)), ((), None))
        self.assertEqual(forced_picks(Rulings(PAIR, ROWS[:1])), ((None,), None))
        self.assertEqual(forced_picks(Rulings(PAIR, ROWS[1:2])), ((None,), None))

    def test_a_quarrel_from_the_beginning(self):
        won, lost, choice = ((None, (0,)), "all", 1), ((None, (1,)), "any", 0), (((1,), None), "all", 0)
        self.assertEqual(forced_picks(Rulings(PAIR, [choice, won, lost])), ((None,) * 3, 1))
        self.assertEqual(forced_picks(Rulings(PAIR, [choice, lost, won])), ((None,) * 3, 1))
        # The quarrel in issue 0 comes first, but that in issue 1 has the ruling with the smallest number.
        rows = [lost, choice, (((0,), None), "all", 1), (((0,), None), "any", 0), won]
        self.assertEqual(forced_picks(Rulings(PAIR, rows)), ((None,) * 5, 0))

    def test_stuck(self):
        # The second ruling is forced to issue 1, and then the third one has no good issue.
        self.assertEqual(forced_picks(UNKEPT), ((None, 1, None), 2))
        rows = [(((1,), (1,)), "all", 0), (((0,), None), "all", 1), ((None, (0,)), "all", 1)]
        self.assertEqual(forced_picks(Rulings(PAIR, rows)), ((None,) * 3, 0))

    def test_the_first_ruling_is_taken_again(self):
        # The first ruling has two good issues until the second one is forced.
        rows = [(((0,), (0,)), "any", 1), (((1,), (1,)), "all", 0), (((1,), None), "all", 1)]
        self.assertEqual(forced_picks(Rulings(PAIR, rows)), ((0, 1, None), None))

    def test_not_forced(self):
        rows = [(((0,), (0,)), "any", 1), (((1,), (1,)), "all", 0)]
        self.assertEqual(forced_picks(Rulings(PAIR, rows)), ((None, None), None))

    def test_many(self):
        seen = set()
        for suit in SUITS:
            for modes in (("all", "any"), ("all",), ("any",)):
                for count in (1, 3, 4, 6):
                    for seed in range(15):
                        rulings = Rulings(suit, sample_rulings(suit, count, seed, modes))
                        picks, stuck = forced_picks(rulings)
                        self.assertEqual((picks, stuck), forced_by_hand(suit, rulings.rows))
                        sound = list(all_picks(rulings))
                        for full in sound:
                            self.assertTrue(all(one in (None, other) for one, other in zip(picks, full)))
                        if stuck is not None:
                            self.assertEqual(sound, [])
                        elif len(modes) == 1:
                            self.assertNotEqual(sound, [])
                        seen.add((stuck is None, bool(sound), len(modes)))
        # With both modes there may be no panel although no ruling is stuck, but such rulings are rare.
        self.assertLessEqual({(True, True, 2), (False, False, 2), (True, True, 1), (False, False, 1)}, seen)

    def test_no_ruling_is_stuck_and_no_panel_keeps_them(self):
        low = (0,)
        rows = [((low, low, None), "any", 1), ((None, low, low), "any", 1), ((low, None, low), "any", 1),
                ((low, low, None), "all", 0), ((None, low, low), "all", 0), ((low, None, low), "all", 0)]
        rulings = Rulings(Suit([A, A, A]), rows)
        # Two of the three must be won at the weakest case, and two of them lost: impossible, but never forced.
        self.assertEqual(forced_picks(rulings), ((None,) * 6, None))
        self.assertEqual(list(all_picks(rulings)), [])
        self.assertFalse(one_mode(rulings))


class OneModeTest(unittest.TestCase):
    """Point 60."""

    def test_one_mode(self):
        for modes, expected in [
            ((), True), (("all",), True), (("any",), True), (("all", "all"), True), (("any",) * 6, True), (("all", "any"), False),
            (("any", "any", "all"), False),
        ]:
            rows = [(((0,), None), mode, number % 2) for number, mode in enumerate(modes)]
            self.assertIs(one_mode(Rulings(PAIR, rows)), expected)
