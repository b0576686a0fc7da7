"""Desks that work on a docket (points 95 to 97)."""

from settledcases.book import bounds, quarrels, settled
from settledcases.booklines import book_text, case_words
from settledcases.desk import Desk, read_number, shown, spaced
from settledcases.leastbook import least_book, spare_rows
from settledcases.settling import unsettled


class BookDesk(Desk):
    """Does deeds on a docket, and says what its present book settles."""

    def __init__(self, docket):
        Desk.__init__(self)
        self.docket = docket

    def reply(self, words):
        """The answer to the line of these words."""
        book = self.docket.now
        match words:
            case ["decide", word, grade]:
                self.docket.decide(book.forum.read_case(word), read_number(grade))
            case ["strike", number]:
                self.docket.strike(read_number(number))
            case ["regrade", number, grade]:
                self.docket.regrade(read_number(number), read_number(grade))
            case ["undo"]:
                self.docket.undo()
            case ["redo"]:
                self.docket.redo()
            case ["bounds", word]:
                return spaced(bounds(book, book.forum.read_case(word)))
            case ["settled", word]:
                return shown(settled(book, book.forum.read_case(word)), "unsettled")
            case ["unsettled"]:
                return case_words(book.forum, list(unsettled(book)))
            case ["quarrels"]:
                return spaced([f"{low}:{high}" for low, high in quarrels(book)])
            case ["least"]:
                return book_text(least_book(book))
            case ["spare"]:
                return spaced(spare_rows(book))
            case _:
                return super().reply(words)
        return spaced([len(self.docket.now.rows), len(self.docket.odds)])

    def together(self, text):
        """The answers to all lines of the text. If one is refused, none of them has any effect."""
        lines = text.split("\n")
        with self.docket.trial():
            answers = [self.reply(line.split(" ")) for line in lines]
        self.lines = self.lines + tuple(lines)
        return answers
