"""Desks for rulings on several issues (points 95 and 96)."""

import random
import unittest

from settledcases.desk import Desk
from settledcases.errors import BadText, NoCase, NoCommand, NoGrade, NoPanel, TooLarge
from settledcases.forum import Forum
from settledcases.issuedesk import IssueDesk
from settledcases.issues import ruling_status
from settledcases.panels import Panel
from settledcases.suits import Rulings, Suit
from settledcases.trees import leaves, panel_or_tree
from tests.desks import NO_NUMBERS, NO_WORDS, check_forms, check_order, outcome
from tests.support import all_parts, sample_rulings, word_by_hand

A, AB = Forum("a"), Forum("ab")
SUITS = [Suit([A]), Suit([A, Forum("b")]), Suit([AB, Forum("", "m"), Forum("", "", (2,))]), Suit([A, A, A])]


def forms_of(suit):
    """The forms of the lines for a suit."""
    parts = " PART" * len(suit.forums)
    return "rule MODE NUMBER" + parts, "status MODE" + parts


def part_words(suit, parts):
    """The words of parts in a line."""
    return " ".join("-" if part is None else word_by_hand(forum, part) for part, forum in zip(parts, suit.forums))


def answer_to(rulings):
    """The answer to a line that has led to these rulings."""
    found = panel_or_tree(rulings)
    return "kept" if isinstance(found, Panel) else f"tree {leaves(found)}"


def status_word(rulings, parts, mode):
    """The answer to a status line."""
    grade = ruling_status(rulings, parts, mode)[0]
    return "unsettled" if grade is None else str(grade)


class IssueDeskTest(unittest.TestCase):
    def test_each_line(self):
        suit = Suit([Forum("a"), Forum("b")])
        desk = IssueDesk(suit)
        self.assertIsInstance(desk, Desk)
        self.assertIs(desk.rulings.suit, suit)
        self.assertEqual((desk.rulings.rows, desk.lines), ((), ()))
        for line, answer in [
            ("status all a// -", "unsettled"), ("rule all 1 // -", "kept"), ("status any a// b//", "1"),
            ("status all // -", "1"), ("rule all 0 a// b//", "kept"),
            ("status all - b//", "0"), ("status all - //", "0"), ("status any - b//", "0"), ("status all a// b//", "0"),
            ("rule any 1 - //", "tree 2"),
        ]:
            self.assertEqual(desk.answer(line), answer, line)
        self.assertEqual(desk.rulings.rows, ((((0,), None), "all", 1), (((1,), (1,)), "all", 0),
                                             ((None, (0,)), "any", 1)))
        self.assertEqual(outcome(lambda: desk.answer("status all - b//")), (NoPanel, {}))
        self.assertEqual(desk.answer("rule all 1 - b//"), "tree 2")
        self.assertEqual((len(desk.lines), len(desk.rulings.rows)), (11, 4))

    def test_many_rulings(self):
        seen = set()
        for suit in SUITS:
            for seed in range(25):
                desk, rulings = IssueDesk(suit=suit), Rulings(suit)
                for parts, mode, grade in sample_rulings(suit, 6, seed):
                    rulings = rulings.added(parts, mode, grade)
                    self.assertEqual(desk.answer(f"rule {mode} {grade} {part_words(suit, parts)}"), answer_to(rulings))
                    self.assertEqual(desk.rulings.rows, rulings.rows)
                    seen.add(answer_to(rulings))
        self.assertTrue({"kept", "tree 1", "tree 2"} <= seen, seen)

    def test_status(self):
        seen = set()
        for suit in SUITS:
            for count, seed in [(0, 0), (1, 1), (2, 2), (3, 3), (5, 4), (6, 5), (6, 6)]:
                rulings, desk = Rulings(suit, sample_rulings(suit, count, seed)), IssueDesk(suit)
                for parts, mode, grade in rulings:
                    desk.answer(f"rule {mode} {grade} {part_words(suit, parts)}")
                before = desk.rulings.rows
                for parts in list(all_parts(suit))[::3]:
                    for mode in ("all", "any"):
                        found = outcome(lambda: desk.answer(f"status {mode} {part_words(suit, parts)}"))
                        self.assertEqual(found, outcome(lambda: status_word(rulings, parts, mode)))
                        seen.add(found if isinstance(found, str) else found[0])
                self.assertEqual(desk.rulings.rows, before)
        self.assertEqual(seen, {"0", "1", "unsettled", NoPanel, TooLarge})

    def test_refused_lines(self):
        desk = IssueDesk(SUITS[1])
        desk.run("rule all 1 a// -\nrule any 0 - //")
        rulings, lines = desk.rulings, desk.lines
        for line, error in [
            ("rule all 1 - -", NoCase), ("rule all 2 - -", NoCase), ("rule any 2 a// -", NoGrade),
            ("rule all 7 a// b//", NoGrade), ("status all - -", NoCase),
            ("rule all x a// -", BadText), ("rule some 1 a// -", BadText), ("rule all 1 b// -", BadText),
            ("status some a// -", BadText), ("status all a// a//", BadText),
            ("rule some 9 - -", BadText), ("rule all 9 x -", BadText), ("status x - -", BadText),
            ("rule all 1 a//", NoCommand), ("status all a// - -", NoCommand),
            ("rule all " + "9" * 1000 + " a// -", NoGrade), ("rule all " + "9" * 1001 + " a// -", BadText),
        ]:
            self.assertEqual(outcome(lambda: desk.answer(line))[0], error, line)
            self.assertIs(desk.rulings, rulings)
            self.assertEqual(desk.lines, lines)

    def test_a_seventh_ruling(self):
        desk = IssueDesk(SUITS[1])
        self.assertEqual(desk.run("\n".join(["rule all 1 a// -"] * 6)), ["kept"] * 6)
        rulings = desk.rulings
        for line, error in [("rule all 1 a// -", TooLarge), ("rule all 2 a// -", NoGrade), ("rule all 2 - -", NoCase),
                            ("status all a// -", TooLarge),
                            ("status all - -", NoCase), ("rule all 1 x -", BadText)]:
            self.assertEqual(outcome(lambda: desk.answer(line))[0], error)
            self.assertIs(desk.rulings, rulings)
        self.assertEqual((len(desk.lines), len(rulings.rows)), (6, 6))

    def test_other_lines(self):
        for suit in SUITS:
            desk, parts = IssueDesk(suit), " -" * (len(suit.forums) - 1)
            for line in ["", "rule", "status", "rule all 1", "status all", "rule all 1 a//" + parts + " -",
                         "status all" + parts, "status all a//" + parts + " a//",
                         "Rule all 1 a//" + parts, "rules all 1 a//" + parts, " rule all 1 a//" + parts, "undo",
                         "decide a// 1", "close 0", "kept", "tree 1"]:
                self.assertEqual(outcome(lambda: desk.answer(line)), (NoCommand, {}), line)
            self.assertEqual((desk.lines, desk.rulings.rows), ((), ()))

    def test_words_that_do_not_fit(self):
        desk = IssueDesk(Suit([AB]))
        for word in NO_WORDS:
            if word != "-":
                for line in (f"rule all 1 {word}", f"status any {word}"):
                    self.assertEqual(outcome(lambda: desk.answer(line)), (BadText, {"line": 1}), line)
        for word in NO_NUMBERS:
            self.assertEqual(outcome(lambda: desk.answer(f"rule all {word} a//")), (BadText, {"line": 1}))
        for word in ("", "All", "ALL", "either", "0", "-", "alls"):
            for line in (f"rule {word} 1 a//", f"status {word} a//"):
                self.assertEqual(outcome(lambda: desk.answer(line)), (BadText, {"line": 1}), line)
        check_order(self, desk, forms_of(Suit([AB])), AB)

    def test_lines_with_one_sign_changed(self):
        for suit in (Suit([AB]), Suit([AB, AB])):
            check_forms(self, IssueDesk(suit), forms_of(suit), AB)

    def test_parts_of_different_forums(self):
        desk = IssueDesk(Suit([A, Forum("b")]))
        self.assertEqual(desk.run("rule all 1 a// b//\nrule all 1 b// a//\nrule any 0 // -\nrule all 1 - b//"),
                         ["kept", "refused", "kept", "kept"])
        self.assertEqual([parts for parts, _, _ in desk.rulings], [((1,), (1,)), ((0,), None), (None, (1,))])

    def test_run_and_reply(self):
        desk = IssueDesk(SUITS[0])
        self.assertEqual(desk.run("rule all 1 a//\nrule all 0 a//\nstatus all a//\n"),
                         ["kept", "tree 1", "refused", "refused"])
        self.assertEqual([desk.reply(["rule", "any", "1", "a//"]), desk.reply(words=("rule", "any", "0", "//"))],
                         ["tree 1", "tree 1"])
        self.assertEqual((desk.lines, len(desk.rulings.rows)), (("rule all 1 a//", "rule all 0 a//"), 4))

    def test_two_desks(self):
        suit = SUITS[0]
        one, other = IssueDesk(suit), IssueDesk(suit)
        one.answer("rule all 1 a//")
        self.assertEqual((len(one.rulings.rows), len(other.rulings.rows)), (1, 0))

    def test_all_statuses_against_the_rulings(self):
        source = random.Random(66)
        for suit in SUITS[:2]:
            for _ in range(20):
                desk = IssueDesk(suit)
                rows = source.choices(list(sample_rulings(suit, 6, source.random())), k=source.randrange(6))
                kept = [f"rule {mode} {grade} {part_words(suit, parts)}" for parts, mode, grade in rows]
                answers = desk.run("\n".join(kept)) if kept else ["kept"]
                for parts in all_parts(suit):
                    found = outcome(lambda: desk.answer(f"status all {part_words(suit, parts)}"))
                    self.assertEqual(found == (NoPanel, {}), answers[-1] != "kept")
