"""Desks that say what should be asked about a docket (points 95 to 97)."""

from settledcases.asks import best_ask, fewest_asks
from settledcases.bookdesk import BookDesk
from settledcases.chains import widest
from settledcases.desk import read_number
from settledcases.duel import duel_value


class AskDesk(BookDesk):
    """Says how many asks are enough, which one is best, and how a duel ends."""

    def reply(self, words):
        """The answer to the line of these words."""
        book = self.docket.now
        match words:
            case ["asks"]:
                return str(fewest_asks(book))
            case ["ask"]:
                best = best_ask(book)
                return "" if best is None else book.forum.word(best)
            case ["width"]:
                return str(len(widest(book)))
            case ["duel", side]:
                return str(duel_value(book, read_number(side)))
        return super().reply(words)
