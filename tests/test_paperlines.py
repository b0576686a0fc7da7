"""Written papers (points 49 to 51 and 95)."""

import random
import unittest

from settledcases.book import Book
from settledcases.errors import BadText
from settledcases.forum import Forum
from settledcases.kinds import KINDS
from settledcases.ladder import keeper
from settledcases.paperlines import read_paper
from settledcases.papers import Balance, ClosedSet, FailedSteps, Paper, Quarrel
from tests.desks import NO_NUMBERS, PAPER, edits
from tests.support import FORUMS, sample_books

LONG, TOO_LONG = "9" * 1000, "1" + "0" * 1000
TEXTS = [
    "quarrel 0 1", "quarrel 12 3", "quarrel 7 7", "balance", "balance 0:1", "balance 0:1 1:1 3:20",
    "balance 3:0 1:5 1:5", "closed", "closed 0", "closed 0 1 12",
    "closed 3 1 1", "failed", "failed 0", "failed 2 0 2 10 1", f"quarrel {LONG} 0", f"balance {LONG}:{LONG} 0:{LONG}",
    f"closed 0 {LONG}", f"failed {LONG} 1",
]


def parts(paper):
    """The class and the fields of a paper."""
    return type(paper), vars(paper)


def paper_by_hand(text):
    """The paper that has this text, which is a written form."""
    word, *rest = text.split(" ")
    if word == "quarrel":
        return Quarrel(int(rest[0]), int(rest[1]))
    if word == "balance":
        return Balance([tuple(int(number) for number in pair.split(":")) for pair in rest])
    return {"closed": ClosedSet, "failed": FailedSteps}[word]([int(number) for number in rest])


class ReadPaperTest(unittest.TestCase):
    def bad(self, text):
        with self.assertRaises(BadText) as caught:
            read_paper(text)
        self.assertEqual(caught.exception.line, 1)

    def check(self, text):
        """Compares what is read from the text with what should be."""
        if PAPER.fullmatch(text):
            self.assertEqual(parts(read_paper(text)), parts(paper_by_hand(text)))
            self.assertEqual(read_paper(text).text, text)
        else:
            self.bad(text)

    def test_four_kinds(self):
        for text, kind, fields in [
            ("quarrel 3 10", Quarrel, {"low": 3, "high": 10}),
            ("balance 0:2 11:30", Balance, {"counts": ((0, 2), (11, 30))}),
            ("closed 0 4 2", ClosedSet, {"rows": (0, 4, 2)}), ("failed 1 1 0", FailedSteps, {"rows": (1, 1, 0)}),
            ("balance", Balance, {"counts": ()}), ("closed", ClosedSet, {"rows": ()}),
            ("failed", FailedSteps, {"rows": ()}),
        ]:
            self.assertEqual(parts(read_paper(text=text)), (kind, fields))

    def test_texts(self):
        for text in TEXTS:
            self.assertIsNotNone(PAPER.fullmatch(text))
            self.check(text)

    def test_papers_of_books(self):
        seen = set()
        for book in sample_books(FORUMS, (1,), (2, 4, 10), 4):
            for kind in KINDS:
                found = keeper(kind, book)
                if isinstance(found, Paper):
                    seen.add(kind)
                    again = read_paper(found.text)
                    self.assertEqual(parts(again), parts(found))
                    self.assertTrue(again.holds(book))
        self.assertEqual(seen, set(KINDS))

    def test_texts_with_one_sign_changed(self):
        for text in TEXTS:
            if len(text) < 100:
                for other in edits(text):
                    self.check(other)

    def test_long_numbers(self):
        for text in TEXTS:
            self.check(text.replace(LONG, TOO_LONG))
            self.check(text.replace(LONG, "0" + LONG[1:]))
        for text in (f"quarrel 0 {TOO_LONG}", f"balance 0:{TOO_LONG}", f"balance {TOO_LONG}:0", f"closed {TOO_LONG}",
                     f"failed 0 {TOO_LONG}"):
            self.bad(text)
            self.check(text.replace(TOO_LONG, LONG))

    def test_numbers_that_are_none(self):
        for number in NO_NUMBERS:
            for text in (f"quarrel {number} 1", f"quarrel 0 {number}", f"balance {number}:1", f"balance 0:{number}",
                         f"balance 0:1 {number}:1",
                         f"closed {number}", f"closed 0 {number}", f"failed {number}", f"failed {number} 1"):
                self.bad(text)

    def test_words(self):
        """Words missing, too many or in another order."""
        for text in ["", " ", "paper", "paper 0 1", "quarrel", "quarrel 0", "quarrel 0 1 2", "quarrel 0:1",
                     "quarrel  0 1", "quarrel 0  1", "quarrel 0 1 ",
                     " quarrel 0 1", "0 quarrel 1", "0 1 quarrel", "Quarrel 0 1", "balance 0", "balance 0 1",
                     "balance 0:1:2", "balance 0:", "balance :1",
                     "balance :", "balance 0:1,1:1", "balance ", "balance 0:1 ", "balance  0:1", "balance 0 :1",
                     "0:1 balance", "closed ", "closed  1",
                     "closed 0,1", "closed 0:1", "0 closed", "CLOSED", "failed ", "failed 0:1", "failed 0 1 ",
                     "failures", "judge", "kept", "rising 0 1",
                     "quarrel 0 1\n", "\nclosed", "closed\n0", "closed\t0", "check closed 0"]:
            self.bad(text)
        source = random.Random(49)
        for text in TEXTS[:14]:
            words = text.split(" ")
            for _ in range(20):
                mixed = [source.choice(words + ["0", "1", "0:1", "quarrel", "closed"])
                         for _ in range(source.randrange(1, 5))]
                self.check(" ".join(mixed))

    def test_a_paper_that_does_not_hold(self):
        book = Book(Forum("a"), 1, [((0,), 1), ((1,), 0)])
        self.assertEqual([read_paper(text).holds(book)
                          for text in ("quarrel 0 1", "quarrel 1 0", "closed 1 0", "closed 0 1", "balance 0:1 1:0",
                                       "failed 1")],
                         [True, False, False, True, False, True])
