"""Picks: which part of each choice ruling is taken as known (points 62 and 63)."""

from settledcases.book import quarrel_in
from settledcases.judges import FloorJudge
from settledcases.panels import Panel
from settledcases.suits import in_play, is_plain


def known_parts(rulings, picks):
    """For each issue the known parts, as triples of the number of the ruling, the case and the grade."""
    return [known_in(rulings, picks, issue) for issue in range(len(rulings.suit.forums))]


def known_in(rulings, picks, issue):
    """The known parts in one issue, in the order of the rulings."""
    known = []
    for number, ruling in enumerate(rulings):
        parts, _, grade = ruling
        if parts[issue] is not None and (is_plain(ruling) or picks[number] == issue):
            known.append((number, parts[issue], grade))
    return known


def part_quarrels(rulings, picks):
    """The quarrels of the known parts, in ascending order."""
    return [
        (issue, won, lost)
        for issue, known in enumerate(known_parts(rulings, picks))
        for won, won_case, won_grade in known
        for lost, lost_case, lost_grade in known
        if quarrel_in((won_case, won_grade), (lost_case, lost_grade))
    ]


def no_picks(rulings):
    """The picks with which nothing is picked."""
    return (None,) * len(rulings.rows)


def with_pick(picks, row, issue):
    """The picks with this issue picked for the ruling with the number row."""
    return picks[:row] + (issue,) + picks[row + 1:]


def all_picks(rulings):
    """Yields all sound picks in ascending order."""
    found = without_quarrels(rulings, [no_picks(rulings)])
    for row in rulings.choice_rows():
        issues = in_play(rulings.rows[row][0])
        found = without_quarrels(rulings, [with_pick(picks, row, issue) for picks in found for issue in issues])
    yield from found


def without_quarrels(rulings, candidates):
    """Those of the picks whose known parts have no quarrel."""
    return [picks for picks in candidates if not part_quarrels(rulings, picks)]


def first_picks(rulings):
    """The first sound picks, or None."""
    found = list(all_picks(rulings))
    return found[0] if found else None


def panel_of(rulings, picks):
    """The panel of floor judges whose decisions are the known parts."""
    judges = []
    for forum, known in zip(rulings.suit.forums, known_parts(rulings, picks)):
        judges.append(FloorJudge(forum, 1, [(case, grade) for _, case, grade in known]))
    return Panel(rulings.suit, judges)
