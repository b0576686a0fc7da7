"""Trees, which show that no panel keeps a list of rulings (points 64 and 65)."""

from settledcases.picks import first_picks, no_picks, panel_of, part_quarrels, with_pick
from settledcases.suits import in_play


def panel_or_tree(rulings):
    """The panel of the first sound picks or, if there are none, a tree that holds."""
    picks = first_picks(rulings)
    if picks is None:
        return built_tree(rulings, no_picks(rulings))
    return panel_of(rulings, picks)


def built_tree(rulings, picks):
    """The tree of a node with these picks, for rulings without sound picks."""
    odds = part_quarrels(rulings, picks)
    if odds:
        issue, won, lost = odds[0]
        return "quarrel", issue, won, lost
    row = [number for number in rulings.choice_rows() if picks[number] is None][0]
    issues = in_play(rulings.rows[row][0])
    branches = [(issue, built_tree(rulings, with_pick(picks, row, issue))) for issue in issues]
    return "split", row, tuple(branches)


def tree_holds(rulings, tree):
    """Whether the tree holds against the rulings."""
    return node_holds(rulings, tree, no_picks(rulings))


def node_holds(rulings, tree, picks):
    """Whether the tree of a node with these picks holds against the rulings."""
    if tree[0] == "quarrel":
        return tree[1:] in part_quarrels(rulings, picks)
    _, row, branches = tree
    if row not in rulings.choice_rows() or picks[row] is not None:
        return False
    if [issue for issue, _ in branches] != in_play(rulings.rows[row][0]):
        return False
    return all([node_holds(rulings, branch, with_pick(picks, row, issue)) for issue, branch in branches])


def leaves(tree):
    """The number of leaves of the tree."""
    if tree[0] == "quarrel":
        return 1
    return sum([leaves(branch) for _, branch in tree[2]])
