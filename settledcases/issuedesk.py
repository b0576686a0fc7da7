"""Desks for rulings on several issues (points 95 and 96)."""

from settledcases.desk import Desk, read_choice, read_number, shown
from settledcases.issues import ruling_status
from settledcases.panels import Panel
from settledcases.suits import Rulings
from settledcases.trees import leaves, panel_or_tree

MODES = ("all", "any")


class IssueDesk(Desk):
    """Adds rulings on a suit, and says what they settle."""

    def __init__(self, suit):
        Desk.__init__(self)
        self.rulings = Rulings(suit)

    def reply(self, words):
        """The answer to the line of these words."""
        suit = self.rulings.suit
        issues = len(suit.forums)
        match words:
            case ["rule", mode, grade, *parts] if len(parts) == issues:
                whole = read_parts(suit, parts)
                self.rulings = self.rulings.added(whole, read_choice(mode, MODES), read_number(grade))
                return keeping_words(self.rulings)
            case ["status", mode, *parts] if len(parts) == issues:
                found, _ = ruling_status(self.rulings, read_parts(suit, parts), read_choice(mode, MODES))
                return shown(found, "unsettled")
        return super().reply(words)


def read_parts(suit, words):
    """The parts of which each word is the case of an issue, or - if the issue is not in play."""
    return tuple([None if word == "-" else forum.read_case(word) for word, forum in zip(words, suit.forums)])


def keeping_words(rulings):
    """Whether a panel keeps the rulings, or how many leaves the tree has that shows the contrary."""
    found = panel_or_tree(rulings)
    return "kept" if isinstance(found, Panel) else f"tree {leaves(found)}"
