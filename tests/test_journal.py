"""Journals (point 94)."""

import re
import unittest

from settledcases.docket import Docket
from settledcases.errors import BadText, CourtError
from settledcases.forum import Forum
from settledcases.journal import journal, replayed
from tests.support import FORUMS, all_cases, word_by_hand
from tests.test_docket import REDO, UNDO, Model, depth, do, sample_deeds, state

A = Forum("a")
SIGNS = " \n/am0123456789-+decidstrkgunol\tx"


def line_by_hand(forum, deed):
    """The line of a deed."""
    if deed[0] == "decide":
        return f"decide {word_by_hand(forum, deed[1])} {deed[2]}"
    return " ".join(str(entry) for entry in deed)


def head_by_hand(line):
    """The forum and the top of a first line, or None, by the words of points 5, 7 and 94."""
    match = re.fullmatch("([a-z]*)/([a-z]*)/([1-3]*) ([1-4])", line)
    if match is None:
        return None
    pro, con, digits, top = match.groups()
    steps = len(pro + con) + sum(map(int, digits))
    if len(set(pro + con)) < len(pro + con) or not 1 <= steps <= 5:
        return None
    return Forum(pro, con, list(map(int, digits))), int(top)


def first_bad_line(text):
    """The number of the first bad line, or None, by going through all deeds that a line could tell."""
    lines = text.split("\n")
    if head_by_hand(lines[0]) is None:
        return 1
    forum, top = head_by_hand(lines[0])
    deeds = [("decide", case, grade) for case in all_cases(forum) for grade in range(10)] + [UNDO, REDO]
    deeds += [("strike", k) for k in range(10)] + [("regrade", k, grade) for k in range(10) for grade in range(10)]
    told = {line_by_hand(forum, deed): deed for deed in deeds}
    model = Model(forum, top)
    for number, line in enumerate(lines[1:], 2):
        if line not in told or model.error(told[line]):
            return number
        model.do(told[line])
    return None


class JournalTest(unittest.TestCase):
    def bad(self, text, line):
        with self.assertRaises(BadText) as caught:
            replayed(text)
        self.assertEqual(caught.exception.line, line)

    def check(self, text):
        """Compares what becomes of a text with what should."""
        line = first_bad_line(text)
        if line is None:
            self.assertEqual(journal(replayed(text)), text)
        else:
            self.bad(text, line)
        return line

    def test_example(self):
        docket = Docket(A)
        docket.attempt([("decide", (1,), 0), ("decide", (0,), 1)])
        self.assertEqual(docket.odds, ((1, 0),))
        docket.undo()
        self.assertEqual([docket.odds, list(docket), journal(docket)],
                         [(), [((1,), 0)], "a// 1\ndecide a// 0\ndecide // 1\nundo"])

    def test_each_deed(self):
        docket = Docket(Forum("a", "m", (2,)), 4)
        docket.attempt([("decide", (1, 0, 2), 4), ("decide", (0, 1, 0), 0), ("regrade", 1, 3), ("strike", 0), UNDO,
                        REDO])
        text = "a/m/2 4\ndecide a/m/2 4\ndecide //0 0\nregrade 1 3\nstrike 0\nundo\nredo"
        self.assertEqual(journal(docket), text)
        found = replayed(text)
        self.assertIsInstance(found, Docket)
        self.assertEqual((found.forum.text, found.top, state(found)), ("a/m/2", 4, state(docket)))

    def test_no_deeds(self):
        for forum in FORUMS:
            for top in (1, 2, 3, 4):
                text = f"{forum.pro}/{forum.con}/{''.join(map(str, forum.tops))} {top}"
                self.assertEqual(journal(docket=Docket(forum, top)), text)
                found = replayed(text=text)
                self.assertEqual((found.forum.text, found.top, found.deeds, list(found)), (forum.text, top, (), []))

    def test_refused_deeds_are_not_told(self):
        docket = Docket(A)
        for deed in [("decide", (1,), 1), ("strike", 3), ("decide", (2,), 1), REDO]:
            try:
                do(docket, deed)
            except CourtError:
                pass
        with self.assertRaises(KeyError):
            with docket.trial():
                docket.strike(0)
                raise KeyError
        self.assertEqual(journal(docket), "a// 1\ndecide a// 1")

    def test_many_dockets(self):
        for forum in FORUMS:
            for top in (1, 2, 4):
                docket = Docket(forum, top)
                for deed in sample_deeds(forum, top, 60, 2):
                    try:
                        do(docket, deed)
                    except CourtError:
                        pass
                lines = [f"{forum.text} {top}"] + [line_by_hand(forum, deed) for deed in docket.deeds]
                self.assertEqual(journal(docket), "\n".join(lines))
                found = replayed(journal(docket))
                self.assertEqual((state(found), depth(found)), (state(docket), depth(docket)))
                # It is a new docket.
                found.decide(forum.weakest_case, 0) if len(list(found)) < 10 else found.strike(0)
                self.assertEqual(len(found.deeds), len(docket.deeds) + 1)

    def test_texts_with_one_sign_changed(self):
        text = "a/m/2 2\ndecide a/m/1 2\ndecide //0 0\nregrade 1 1\nundo\nstrike 0\nundo\nredo\ndecide a// 1\nundo"
        self.assertEqual(self.check(text), 9)
        text = text.replace("a// 1", "a//2 1")
        self.assertIsNone(self.check(text))
        seen = set()
        for at in range(len(text) + 1):
            seen.add(self.check(text[:at] + text[at + 1:]))
            for sign in SIGNS:
                seen.add(self.check(text[:at] + sign + text[at:]))
                seen.add(self.check(text[:at] + sign + text[at + 1:]))
        self.assertEqual(seen, {None} | set(range(1, 12)))

    def test_texts_with_lines_changed(self):
        lines = "a// 1\ndecide a// 0\ndecide // 1\nundo\nredo\nregrade 0 1\nstrike 1\nundo\nundo\nredo".split("\n")
        self.assertIsNone(self.check("\n".join(lines)))
        for at in range(len(lines) + 1):
            self.check("\n".join(lines[:at] + lines[at + 1:]))
            for line in lines + ["", " ", "undo ", "strike", "strike 10", "regrade 0", "regrade 0 2", "decide a/ 1",
                                 "trial"]:
                self.check("\n".join(lines[:at] + [line] + lines[at:]))
            for other in range(at):
                if at < len(lines):
                    mixed = list(lines)
                    mixed[at], mixed[other] = lines[other], lines[at]
                    self.check("\n".join(mixed))

    def test_bad_first_lines(self):
        for text in ["", "\n", " ", "a//", "a// ", "a// 0", "a// 5", "a// 10", "a// 01", "a//  1", " a// 1", "a// 1 ",
                     "a// x", "a// -1", "// 1",
                     "aa// 1", "A// 1", "a/ 1", "a/// 1", "a//4 1", "abcdef// 1", "1", " 1", "a//1", "undo",
                     "a// 1\tundo"]:
            for rest in ("", "\nundo", "\ndecide a// 1"):
                self.bad(text + rest, 1)

    def test_bad_later_lines(self):
        for line in ["", " ", "undo ", " undo", "undo 0", "Undo", "redo", "undo", "strike 0", "strike", "strike ",
                     "strike a", "regrade 0 0", "decide",
                     "decide a//", "decide a// ", "decide a// 2", "decide a// 01", "decide  a// 1", "decide b// 1",
                     "decide (1,) 1", "decide a// 1 1",
                     "decide 1 a//", "decide a// -1", "decide a// +1", "attempt", "trial", "now"]:
            self.bad("a// 1\n" + line, 2)
            self.bad("a// 1\ndecide a// 1\nundo\nredo\nundo\n" + (line if line not in ("undo", "redo") else "strike 0"),
                     6)
            self.bad("a// 1\n" + line + "\nundo\nx", 2)

    def test_newline_at_the_end(self):
        self.bad("a// 1\n", 2)
        self.bad("a// 1\ndecide a// 1\n", 3)
        self.bad("a// 1\n\ndecide a// 1", 2)

    def test_ten_rows(self):
        text = "a// 1" + "\ndecide a// 1" * 10
        self.assertEqual(len(list(replayed(text))), 10)
        self.bad(text + "\ndecide a// 1", 12)
        self.bad(text + "\nstrike 10", 12)
        self.assertEqual(len(list(replayed(text + "\nstrike 9\ndecide // 0"))), 10)
        self.bad(text + "\nstrike 9\nundo\ndecide // 0", 14)
