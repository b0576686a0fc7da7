"""Trees (points 64 and 65)."""

import unittest

from settledcases.forum import Forum
from settledcases.panels import Panel
from settledcases.picks import all_picks, panel_of
from settledcases.suits import Rulings, Suit
from settledcases.trees import leaves, panel_or_tree, tree_holds
from tests.support import HUGE, keeping_panels, part_quarrels_by_hand, plain_ruling, sample_rulings
from tests.test_picks import PAIR, ROWS, SUITS

A = Forum("a")
B = Forum("b")
RULINGS = Rulings(PAIR, ROWS)
INNER = ("split", 2, ((1, ("quarrel", 1, 2, 1)),))
TREE = ("split", 1, ((0, ("quarrel", 0, 0, 1)), (1, INNER)))


def built_by_hand(suit, rows, picks):
    """The tree of a node, by the words of point 65."""
    odds = part_quarrels_by_hand(suit, rows, picks)
    if odds:
        return ("quarrel",) + odds[0]
    row = min(k for k, ruling in enumerate(rows) if not plain_ruling(ruling) and picks[k] is None)
    branches = []
    for issue, part in enumerate(rows[row][0]):
        if part is not None:
            branches.append((issue, built_by_hand(suit, rows, picks[:row] + (issue,) + picks[row + 1:])))
    return "split", row, tuple(branches)


def holds_by_hand(suit, rows, tree, picks):
    """Whether a tree holds at a node, by the words of point 64."""
    if tree[0] == "quarrel":
        return tuple(tree[1:]) in part_quarrels_by_hand(suit, rows, picks)
    row, branches = tree[1:]
    if not 0 <= row < len(rows) or plain_ruling(rows[row]) or picks[row] is not None:
        return False
    if [issue for issue, _ in branches] != [issue for issue, part in enumerate(rows[row][0]) if part is not None]:
        return False
    return all(holds_by_hand(suit, rows, branch, picks[:row] + (issue,) + picks[row + 1:]) for issue, branch in branches)


def changed_trees(tree):
    """Trees that differ from the tree at one place."""
    if tree[0] == "quarrel":
        for at in (1, 2, 3):
            for number in (tree[at] - 1, tree[at] + 1, HUGE, -HUGE):
                yield tree[:at] + (number,) + tree[at + 1:]
        yield ("quarrel", tree[1], tree[3], tree[2])
        yield ("split", 0, ((0, tree),))
        return
    _, row, branches = tree
    for number in (row - 1, row + 1, -1, 6, HUGE, -HUGE):
        yield ("split", number, branches)
    yield ("split", row, branches[1:])
    yield ("split", row, branches[:-1])
    yield ("split", row, branches + branches[-1:])
    yield ("split", row, branches[:1] + branches)
    yield ("split", row, branches[::-1] if len(branches) > 1 else ())
    yield ("split", row, ((0, tree), (1, tree)))
    for at, (issue, branch) in enumerate(branches):
        for number in (issue + 1, issue - 1, HUGE):
            yield ("split", row, branches[:at] + ((number, branch),) + branches[at + 1:])
        for changed in changed_trees(branch):
            yield ("split", row, branches[:at] + ((issue, changed),) + branches[at + 1:])


class PanelOrTreeTest(unittest.TestCase):
    """Point 65."""

    def test_example(self):
        self.assertEqual(panel_or_tree(RULINGS), TREE)
        self.assertEqual((leaves(TREE), tree_holds(RULINGS, TREE)), (2, True))

    def test_no_rulings(self):
        panel = panel_or_tree(Rulings(PAIR))
        self.assertIsInstance(panel, Panel)
        self.assertEqual([judge.rows for judge in panel.judges], [(), ()])

    def test_a_quarrel_from_the_beginning(self):
        rows = [(((1,), (1,)), "all", 0), ((None, (0,)), "all", 1), (((0,), (0,)), "all", 1), ((None, (1,)), "any", 0)]
        self.assertEqual(panel_or_tree(Rulings(PAIR, rows)), ("quarrel", 1, 1, 3))
        self.assertEqual(panel_or_tree(Rulings(PAIR, rows + [(((0,), (1,)), "any", 0)])), ("quarrel", 0, 2, 4))

    def test_first_sound_picks(self):
        panel = panel_or_tree(Rulings(PAIR, ROWS[1:]))
        self.assertEqual([judge.rows for judge in panel.judges], [(((1,), 0),), (((0,), 1),)])

    def test_many(self):
        panels, trees, depths = 0, 0, set()
        for suit in SUITS:
            for count in (2, 4, 5, 6):
                for seed in range(25):
                    rulings = Rulings(suit, sample_rulings(suit, count, seed))
                    found, sound = panel_or_tree(rulings), list(all_picks(rulings))
                    if sound:
                        self.assertIsInstance(found, Panel)
                        expected = panel_of(rulings, sound[0])
                        self.assertEqual([judge.rows for judge in found.judges], [judge.rows for judge in expected.judges])
                        self.assertTrue(found.keeps(rulings))
                        panels += 1
                    else:
                        self.assertEqual(found, built_by_hand(suit, rulings.rows, (None,) * count))
                        self.assertTrue(tree_holds(rulings, found))
                        depths.add(leaves(found))
                        trees += 1
        self.assertGreater(min(panels, trees), 50)
        self.assertGreater(len(depths), 3)

    def test_a_panel_or_a_tree(self):
        for suit in [Suit([Forum("ab")]), PAIR, Suit([Forum("", "", (2,)), A])]:
            for count in (1, 3, 5, 6):
                for seed in range(10):
                    rulings = Rulings(suit, sample_rulings(suit, count, seed))
                    kept = any(True for _ in keeping_panels(suit, rulings.rows))
                    self.assertEqual(isinstance(panel_or_tree(rulings), Panel), kept)

    def test_long_rulings(self):
        suit = Suit([A, A, A])
        rows = [(((1,), None, None), "any", 0), ((None, (1,), None), "any", 0), ((None, None, (1,)), "any", 0)]
        tree = panel_or_tree(Rulings(suit, rows + [(((1,), (1,), (1,)), "any", 1)] * 3))
        self.assertEqual((tree[0], tree[1], leaves(tree)), ("split", 3, 3))
        rows = [(((0,), (0,), (0,)), "any", 1)] * 5 + [(((1,), None, None), "any", 0)]
        self.assertIsInstance(panel_or_tree(Rulings(suit, rows)), Panel)


class TreeHoldsTest(unittest.TestCase):
    """Point 64."""

    def test_each_condition(self):
        leaf = ("quarrel", 0, 0, 1)
        for tree in [
            # Leaves that are no quarrels at their picks.
            leaf, ("quarrel", 1, 2, 1), ("split", 1, ((0, ("quarrel", 0, 1, 0)), (1, INNER))), ("split", 1, ((0, leaf), (1, leaf))),
            ("split", 1, ((0, ("quarrel", 1, 0, 1)), (1, INNER))), ("split", 2, ((1, ("quarrel", 1, 2, 1)),)),
            # Numbers that do not exist.
            ("quarrel", -1, 0, 1), ("quarrel", 2, 0, 1), ("quarrel", HUGE, HUGE, -HUGE), ("split", -2, TREE[2]), ("split", 3, TREE[2]),
            ("split", -1, INNER[2]), ("split", HUGE, TREE[2]), ("split", -HUGE, TREE[2]),
            ("split", 1, ((0, ("quarrel", 0, 0, -2)), (1, INNER))), ("split", 1, ((0, ("quarrel", -2, 0, 1)), (1, INNER))),
            # A split on a plain ruling, and on one that has a pick.
            ("split", 0, ((0, TREE),)), ("split", 1, ((0, ("split", 1, ((0, leaf), (1, INNER)))), (1, INNER))),
            # Branches that are missing, too many, twice or in another order.
            ("split", 1, ()), ("split", 1, ((0, leaf),)), ("split", 1, ((1, INNER),)), ("split", 1, ((0, leaf), (0, leaf), (1, INNER))),
            ("split", 1, ((1, INNER), (0, leaf))), ("split", 1, ((0, leaf), (1, INNER), (2, leaf))),
            ("split", 1, ((-1, leaf), (0, leaf), (1, INNER))), ("split", 1, ((0, leaf), (1, ("split", 2, ((0, leaf), (1, ("quarrel", 1, 2, 1))))))),
        ]:
            self.assertIs(tree_holds(RULINGS, tree), False)
        self.assertIs(tree_holds(rulings=RULINGS, tree=TREE), True)

    def test_other_trees_that_hold(self):
        # The splits may come in another order, and a leaf may be any quarrel.
        other = ("split", 2, ((1, ("split", 1, ((0, ("quarrel", 0, 0, 1)), (1, ("quarrel", 1, 2, 1))))),))
        self.assertIs(tree_holds(RULINGS, other), True)
        rulings = Rulings(PAIR, [(((0,), None), "all", 1), (((1,), None), "any", 0), (((0,), None), "any", 0)])
        for tree in [("quarrel", 0, 0, 1), ("quarrel", 0, 0, 2)]:
            self.assertIs(tree_holds(rulings, tree), True)
        self.assertIs(tree_holds(rulings, ("quarrel", 0, 1, 2)), False)
        # A split is possible where there is a quarrel already.
        rulings = Rulings(PAIR, ROWS + [(((0,), None), "any", 0)])
        self.assertIs(tree_holds(rulings, TREE), True)
        self.assertIs(tree_holds(rulings, ("quarrel", 0, 0, 3)), True)

    def test_one_issue_in_play(self):
        rulings = Rulings(PAIR, [(((0,), None), "any", 1), (((1,), None), "all", 0)])
        tree = panel_or_tree(rulings)
        self.assertEqual(tree, ("split", 0, ((0, ("split", 1, ((0, ("quarrel", 0, 0, 1)),))),)))
        self.assertIs(tree_holds(rulings, tree), True)
        for wrong in changed_trees(tree):
            self.assertIs(tree_holds(rulings, wrong), holds_by_hand(PAIR, rulings.rows, wrong, (None, None)))

    def test_deep_trees(self):
        tree = ("quarrel", 0, 0, 1)
        for number in range(10):
            tree = ("split", number % 3, ((0, tree), (1, tree)) if number < 6 else ((0, tree),))
        self.assertIs(tree_holds(RULINGS, tree), False)
        self.assertEqual(leaves(tree), 64)

    def test_changed_trees(self):
        holding, failing = 0, 0
        for suit in SUITS:
            for seed in range(40):
                rulings = Rulings(suit, sample_rulings(suit, 5, seed))
                tree = panel_or_tree(rulings)
                if isinstance(tree, Panel):
                    continue
                for changed in list(changed_trees(tree))[:300]:
                    expected = holds_by_hand(suit, rulings.rows, changed, (None,) * 5)
                    self.assertIs(tree_holds(rulings, changed), expected)
                    holding, failing = holding + expected, failing + (not expected)
        self.assertGreater(min(holding, failing), 50)

    def test_rulings_that_a_panel_keeps(self):
        for seed in range(20):
            rulings = Rulings(PAIR, sample_rulings(PAIR, 3, seed))
            if isinstance(panel_or_tree(rulings), Panel):
                for tree in [TREE, INNER, ("quarrel", 0, 0, 1), ("quarrel", 1, 1, 0), ("split", 0, ())] + list(changed_trees(TREE)):
                    self.assertIs(tree_holds(rulings, tree), False)
        self.assertIs(tree_holds(Rulings(PAIR), TREE), False)


class LeavesTest(unittest.TestCase):
    """Point 64."""

    def test_leaves(self):
        self.assertEqual([leaves(tree) for tree in (("quarrel", 0, 0, 1), INNER, TREE, ("split", 5, ()))], [1, 1, 2, 0])
        self.assertEqual(leaves(("split", -1, ((0, TREE), (7, ("split", 0, ())), (0, INNER), (0, TREE)))), 5)
        wide = ("split", 0, tuple((number, ("quarrel", 0, 0, 0)) for number in range(1000)))
        self.assertEqual(leaves(tree=wide), 1000)
