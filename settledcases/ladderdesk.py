"""Desks that ask the ladder of judges about a docket (points 95 to 97)."""

from settledcases.bookdesk import BookDesk
from settledcases.desk import read_choice, shown, spaced
from settledcases.errors import NoKeeper
from settledcases.kinds import KINDS
from settledcases.ladder import keeper, verdict
from settledcases.paperlines import read_paper
from settledcases.papers import Paper


class LadderDesk(BookDesk):
    """Says what each kind of judges settles, and answers with papers and about them."""

    def reply(self, words):
        """The answer to the line of these words."""
        book = self.docket.now
        match words:
            case ["verdict", kind, word]:
                return verdict_word(read_choice(kind, KINDS), book, book.forum.read_case(word))
            case ["opinion", word]:
                return opinion_words(book, book.forum.read_case(word))
            case ["paper", kind]:
                return paper_text(keeper(read_choice(kind, KINDS), book))
            case ["check", *more] if len(more) > 0:
                return "holds" if read_paper(" ".join(more)).holds(book) else "fails"
        return super().reply(words)


def verdict_word(kind, book, case):
    """The grade that the kind settles for the case, or unsettled."""
    grade, _ = verdict(kind, book, case)
    return shown(grade, "unsettled")


def opinion_words(book, case):
    """What each kind settles for the case, or none where no judge of the kind keeps the book."""
    found = []
    for kind in KINDS:
        try:
            found.append(verdict_word(kind, book, case))
        except NoKeeper:
            found.append("none")
    return spaced(found)


def paper_text(found):
    """The written form of a paper, or kept for a judge."""
    return found.text if isinstance(found, Paper) else "kept"
