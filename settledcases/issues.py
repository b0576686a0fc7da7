"""What rulings settle, and which picks they force (points 60, 66 and 67)."""

from settledcases.errors import NoPanel
from settledcases.panels import Panel
from settledcases.picks import no_picks, part_quarrels, with_pick
from settledcases.suits import in_play
from settledcases.trees import panel_or_tree


def ruling_status(rulings, parts, mode):
    """What the rulings settle for the parts, with a tree, or None with a panel for each grade."""
    as_lost = rulings.added(parts, mode, 0)
    as_won = rulings.added(parts, mode, 1)
    if not isinstance(panel_or_tree(rulings), Panel):
        raise NoPanel("no panel keeps the rulings")
    lost = panel_or_tree(as_lost)
    won = panel_or_tree(as_won)
    if not isinstance(lost, Panel):
        return 1, lost
    if not isinstance(won, Panel):
        return 0, won
    return None, (lost, won)


def forced_picks(rulings):
    """The forced picks, and the number of the stuck ruling or None."""
    picks = no_picks(rulings)
    odds = part_quarrels(rulings, picks)
    if odds:
        return picks, min([min(won, lost) for _, won, lost in odds])
    row = first_narrow_row(rulings, picks)
    while row is not None:
        issues = good_issues(rulings, picks, row)
        if not issues:
            return picks, row
        picks = with_pick(picks, row, issues[0])
        row = first_narrow_row(rulings, picks)
    return picks, None


def first_narrow_row(rulings, picks):
    """The first choice ruling without a pick that has at most one good issue, or None."""
    for row in rulings.choice_rows():
        if picks[row] is None and len(good_issues(rulings, picks, row)) <= 1:
            return row
    return None


def good_issues(rulings, picks, row):
    """The issues that can be picked for the ruling without a quarrel."""
    issues = in_play(rulings.rows[row][0])
    return [issue for issue in issues if not part_quarrels(rulings, with_pick(picks, row, issue))]


def one_mode(rulings):
    """Whether all rulings have the same mode."""
    return len(set([mode for _, mode, _ in rulings])) <= 1
