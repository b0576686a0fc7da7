"""Desks that say which rows of a docket should fall (points 95 to 97)."""

from settledcases.bookdesk import BookDesk
from settledcases.changes import changes_price, least_changes
from settledcases.desk import spaced
from settledcases.evening import even_changes
from settledcases.falls import falls
from settledcases.overruling import overruled


class FallDesk(BookDesk):
    """Says what should fall, and which regradings change least. All prices are 1."""

    def reply(self, words):
        """The answer to the line of these words."""
        book = self.docket.now
        match words:
            case ["overruled"]:
                return spaced(overruled(book))
            case ["falls"]:
                return spaced(falls(book))
            case ["changes"]:
                return spaced(least_changes(book))
            case ["changes", "high"]:
                return spaced(least_changes(book, high=True))
            case ["price"]:
                return str(changes_price(book, least_changes(book)))
            case ["even"]:
                return spaced(even_changes(book))
        return super().reply(words)
