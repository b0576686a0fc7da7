"""Desks for the ladder of judges (points 95 to 97)."""

import unittest

from settledcases.bookdesk import BookDesk
from settledcases.docket import Docket
from settledcases.errors import BadText, NoCommand, NoKeeper, NotYesNo, TooLarge
from settledcases.forum import Forum
from settledcases.kinds import KINDS
from settledcases.ladder import keeper, verdict
from settledcases.ladderdesk import LadderDesk
from settledcases.papers import Paper
from tests.desks import DESK_FORUMS, LADDER_FORMS, NO_WORDS, check_forms, check_order, dockets, outcome
from tests.support import all_cases, word_by_hand
from tests.test_bookdesk import expected_answers
from tests.test_docket import depth, state
from tests.test_paperlines import paper_by_hand

AB = Forum("ab")
PAPERS = [
    "quarrel 0 1", "quarrel 1 0", "quarrel 0 0", "quarrel 0 10", "balance 0:1 1:1", "balance 0:2 1:1",
    "balance 0:1 1:1 2:1", "balance", "closed 0 1", "closed 1 0",
    "closed 0 1 2", "closed 0 1 2 3", "closed", "failed 0 0", "failed 0 1", "failed 1 0", "failed 1 1", "failed 0",
    "failed", "failed 0 1 2", "closed " + "9" * 1000,
]


def grade_word(kind, book, case):
    """What a kind settles, as a word, or the error."""
    found = outcome(lambda: verdict(kind, book, case))
    if isinstance(found[0], type):
        return found
    return "unsettled" if found[0] is None else str(found[0])


def opinion_by_hand(book, case):
    """The answer to an opinion line, or the error."""
    found = [grade_word(kind, book, case) for kind in KINDS]
    others = [entry for entry in found if isinstance(entry, tuple) and entry[0] is not NoKeeper]
    return others[0] if others else " ".join("none" if isinstance(entry, tuple) else entry for entry in found)


def holds_word(text, book):
    """The answer to a check line."""
    return "holds" if paper_by_hand(text).holds(book) else "fails"


class LadderDeskTest(unittest.TestCase):
    def test_each_line(self):
        desk = LadderDesk(Docket(AB))
        self.assertIsInstance(desk, BookDesk)
        desk.answer("decide a// 1")
        for line, answer in [
            ("verdict single //", "0"), ("verdict ranked //", "unsettled"), ("verdict rising ab//", "1"),
            ("verdict weighing b//", "unsettled"),
            ("opinion ab//", "1 1 1 1"), ("opinion b//", "0 unsettled unsettled unsettled"), ("paper single", "kept"),
            ("paper rising", "kept"),
            ("check quarrel 0 0", "fails"), ("decide ab// 0", "2 1"), ("opinion //", "none none none none"),
            ("paper single", "failed 1 0"),
            ("paper ranked", "closed 0 1"), ("paper weighing", "balance 0:1 1:1"), ("paper rising", "quarrel 0 1"),
            ("check quarrel 0 1", "holds"),
            ("check quarrel 1 0", "fails"), ("check failed 1 1", "holds"), ("check failed 0 0", "fails"),
            ("check balance 0:1 1:1", "holds"),
            ("check balance", "fails"), ("check closed 0 1", "holds"), ("check closed 0 1 2", "fails"),
        ]:
            self.assertEqual(desk.answer(line), answer, line)

    def test_verdicts_and_opinions(self):
        seen = set()
        for docket in dockets(DESK_FORUMS, (1,), (0, 1, 3, 5, 10), 2):
            desk, before = LadderDesk(docket), (state(docket), depth(docket))
            for case in all_cases(docket.forum)[:8]:
                word = word_by_hand(docket.forum, case)
                for kind in KINDS:
                    expected = grade_word(kind, docket.now, case)
                    self.assertEqual(outcome(lambda: desk.answer(f"verdict {kind} {word}")), expected)
                    seen.add(expected if isinstance(expected, str) else expected[0])
                found = outcome(lambda: desk.answer(f"opinion {word}"))
                self.assertEqual(found, opinion_by_hand(docket.now, case))
                seen |= set(found.split(" ")) if isinstance(found, str) else set()
            self.assertEqual((state(docket), depth(docket)), before)
        self.assertEqual(seen, {"0", "1", "unsettled", "none", NoKeeper, TooLarge})

    def test_papers(self):
        seen = set()
        for docket in dockets(DESK_FORUMS, (1,), (0, 1, 2, 3, 5, 10), 3):
            desk = LadderDesk(docket)
            for kind in KINDS:
                found = keeper(kind, docket.now)
                expected = found.text if isinstance(found, Paper) else "kept"
                self.assertEqual(desk.answer(f"paper {kind}"), expected)
                seen.add((kind, expected.split(" ")[0]))
                if expected != "kept":
                    self.assertEqual(desk.answer(f"check {expected}"), "holds")
            for text in PAPERS:
                self.assertEqual(desk.answer(f"check {text}"), holds_word(text, docket.now))
        words = dict(zip(KINDS, ("failed", "closed", "balance", "quarrel")))
        self.assertEqual(seen, {(kind, word) for kind in KINDS for word in ("kept", words[kind])})

    def test_no_keeper(self):
        desk = LadderDesk(Docket(AB))
        desk.run("decide a// 1\ndecide b// 1")
        for kind, expected in [("single", (NoKeeper, {"kind": "single"})), ("ranked", "1"), ("weighing", "1"),
                               ("rising", "1")]:
            self.assertEqual(outcome(lambda: desk.answer(f"verdict {kind} ab//")), expected)
        self.assertEqual(desk.answer("opinion ab//"), "none 1 1 1")

    def test_errors_of_the_functions(self):
        for docket in dockets([AB], (2, 3, 4), (0, 3, 10), 1):
            desk = LadderDesk(docket)
            for line in ["verdict rising a//", "verdict single //", "opinion a//", "paper rising", "paper single",
                         "check quarrel 0 1", "check closed", "check failed 0"]:
                self.assertEqual(outcome(lambda: desk.answer(line)), (NotYesNo, {}))
            for line in ["verdict x a//", "verdict rising c//", "opinion c//", "paper x", "check x", "check ",
                         "check quarrel 0 01"]:
                self.assertEqual(outcome(lambda: desk.answer(line)), (BadText, {"line": 1}))
        desk = LadderDesk(Docket(AB))
        desk.run("\n".join(["decide a// 1", "decide ab// 0"] * 5))
        for line in ("verdict rising a//", "opinion a//"):
            self.assertEqual(outcome(lambda: desk.answer(line)), (TooLarge, {}))
        self.assertEqual(desk.answer("paper rising"), "quarrel 0 1")

    def test_lines_of_a_book_desk(self):
        for docket in dockets(DESK_FORUMS[:3], (1, 3), (0, 4), 2):
            for line, expected in expected_answers(docket):
                self.assertEqual(outcome(lambda: LadderDesk(docket).answer(line)), expected)

    def test_words_that_do_not_fit(self):
        desk = LadderDesk(Docket(AB))
        lines = [f"verdict rising {word}" for word in NO_WORDS] + [f"opinion {word}" for word in NO_WORDS]
        lines += [f"{first}{kind}{last}" for kind in ("", "Rising", "judge", "paper", "exchanged", "0", "singles")
                  for first, last in [("paper ", ""), ("verdict ", " a//")]]
        lines += ["check " + text for text in ("", " ", "  ", "paper", "kept", "quarrel", "quarrel 0", "quarrel 0 1 ",
                                               " quarrel 0 1", "quarrel  0 1", "closed 01",
                                               "closed " + "1" * 1001, "balance 0", "check closed", "failed -1")]
        for line in lines:
            self.assertEqual(outcome(lambda: desk.answer(line)), (BadText, {"line": 1}), line)
        check_order(self, desk, LADDER_FORMS, AB)

    def test_other_lines(self):
        desk = LadderDesk(Docket(AB))
        for line in ["check", "checks closed", "Check closed", " check closed", "verdict", "verdict rising",
                     "verdict a//", "verdict rising a// b//", "verdict  rising a//",
                     "opinion", "opinion a// b//", "opinion rising a//", "paper", "paper rising ", "paper rising a//",
                     "papers rising", "falls", "asks", "duel 1"]:
            self.assertEqual(outcome(lambda: desk.answer(line)), (NoCommand, {}), line)
        self.assertEqual(desk.lines, ())

    def test_lines_with_one_sign_changed(self):
        for docket in dockets([AB], (1, 2), (3,), 1):
            check_forms(self, LadderDesk(docket), LADDER_FORMS, docket.forum)

    def test_the_docket_and_reply(self):
        docket = Docket(AB)
        desk = LadderDesk(docket=docket)
        self.assertIs(desk.docket, docket)
        docket.attempt([("decide", (1, 0), 1), ("decide", (1, 1), 0)])
        self.assertEqual([desk.reply(["check", "quarrel", "0", "1"]), desk.reply(words=("check", "closed")),
                          desk.reply(("paper", "rising"))],
                         ["holds", "fails", "quarrel 0 1"])
        with self.assertRaises(NoKeeper):
            desk.together("undo\nopinion a//\nredo\nverdict rising a//")
        self.assertEqual((desk.lines, len(list(docket))), ((), 2))
