"""Desks for courts (points 95 and 96)."""

import unittest

from settledcases.book import settled
from settledcases.courtdesk import CourtDesk
from settledcases.courts import Courts
from settledcases.desk import Desk
from settledcases.errors import BadText, Closed, NoCommand, NoCourt, NoGrade, TooLarge
from settledcases.forum import Forum
from settledcases.standing import binding, standing
from settledcases.telling import lowest_court, told
from tests.desks import COURT_FORMS, NO_NUMBERS, NO_WORDS, check_forms, check_order, outcome
from tests.support import all_cases, word_by_hand
from tests.test_standing import TWO, diaries

AB = Forum("ab")


def line_of(forum, entry):
    """The line of an entry."""
    if entry[0] == "close":
        return f"close {entry[1]}"
    return f"decide {entry[1]} {word_by_hand(forum, entry[2])} {entry[3]}"


def word_or(found, otherwise):
    """The number as a word, or the other word for None."""
    return otherwise if found is None else str(found)


class CourtDeskTest(unittest.TestCase):
    def test_each_line(self):
        desk = CourtDesk(TWO)
        self.assertIsInstance(desk, Desk)
        self.assertIs(desk.diary.courts, TWO)
        self.assertEqual((desk.diary.entries, desk.lines), ((), ()))
        for line, answer in [
            ("settled 1 a//", "unsettled"), ("told 0 //", "not yet"), ("lowest 1 a// 0", "1"), ("close 1", ""),
            ("lowest 1 a// 0", "0"),
            ("decide 0 // 1", "1"), ("settled 0 a//", "1"), ("settled 1 //", "1"), ("told 1 //", "not yet"),
            ("decide 0 a// 0", "2"),
            ("settled 1 a//", "0"), ("settled 1 //", "0"), ("close 0", "2"), ("told 1 a//", "lost"),
            ("told 0 //", "lost"), ("lowest 1 a// 0", "none"),
        ]:
            self.assertEqual(desk.answer(line), answer, line)
        self.assertEqual(desk.diary.entries,
                         (("close", 1), ("decide", 0, (0,), 1), ("decide", 0, (1,), 0), ("close", 0)))

    def test_days_that_stand(self):
        desk = CourtDesk(courts=TWO)
        self.assertEqual(desk.run("decide 1 a// 1\ndecide 1 // 1\ndecide 0 a// 1\ndecide 0 a// 0\ndecide 0 a// 1"),
                         ["0", "0 1", "0 1 2", "3", "0 1 2 4"])

    def test_many_diaries(self):
        seen = set()
        for diary in diaries(counts=(0, 4, 10), seeds=3, closings=4):
            forum, desk = diary.courts.forum, CourtDesk(diary.courts)
            for day, entry in enumerate(diary.entries):
                answer = desk.answer(line_of(forum, entry))
                self.assertEqual(desk.diary.entries, diary.entries[:day + 1])
                self.assertEqual(answer, " ".join(str(other) for other in standing(desk.diary)))
            for court in range(len(diary.courts.parents)):
                for case in all_cases(forum)[:6]:
                    word = word_by_hand(forum, case)
                    lines = [(f"settled {court} {word}", word_or(settled(binding(diary, court), case), "unsettled")),
                             (f"told {court} {word}", told(diary, court, case))]
                    lines += [(f"lowest {court} {word} {grade}",
                               word_or(lowest_court(diary, court, case, grade), "none")) for grade in (0, 1)]
                    for line, expected in lines:
                        self.assertEqual(desk.answer(line), expected, line)
                        seen.add((line.split(" ")[0], expected))
            self.assertEqual(desk.diary.entries, diary.entries)
        self.assertTrue({("settled", word) for word in ("0", "1", "unsettled")} | {("told", word)
                                                                                   for word in ("won", "lost", "never",
                                                                                                "not yet")}
                        | {("lowest", word) for word in ("0", "1", "2", "none")} <= seen, seen)

    def test_refused_lines(self):
        desk = CourtDesk(TWO)
        desk.run("decide 0 a// 1\nclose 1")
        diary, lines = desk.diary, desk.lines
        for line, error in [
            ("decide 2 a// 1", NoCourt), ("decide 2 a// 2", NoGrade), ("decide 1 a// 2", NoGrade),
            ("decide 1 a// 1", Closed), ("close 1", Closed), ("close 2", NoCourt),
            ("settled 2 a//", NoCourt), ("told 2 a//", NoCourt), ("lowest 2 a// 1", NoCourt),
            ("lowest 2 a// 2", NoGrade), ("lowest 1 a// 5", NoGrade),
            ("decide 2 b// 2", BadText), ("settled 2 b//", BadText), ("settled x a//", BadText),
            ("told 2 b//", BadText), ("lowest 2 b// 2", BadText),
            ("lowest 2 a// -", BadText), ("close " + "9" * 1000, NoCourt), ("close " + "9" * 1001, BadText),
            ("decide 0 a// " + "9" * 1000, NoGrade),
            ("decide a// 1", NoCommand), ("close", NoCommand), ("settled a//", NoCommand),
        ]:
            self.assertEqual(outcome(lambda: desk.answer(line))[0], error, line)
            self.assertIs(desk.diary, diary)
            self.assertEqual(desk.lines, lines)
        self.assertEqual(outcome(lambda: desk.answer("close 1")), (Closed, {"court": 1}))

    def test_an_eleventh_entry(self):
        desk = CourtDesk(Courts(AB, [-1, 0, 0], [0, 1, 0]))
        desk.run("\n".join(["close 2"] + ["decide 1 a// 1"] * 9))
        diary = desk.diary
        self.assertEqual(len(diary.entries), 10)
        for line, error in [("decide 1 a// 1", TooLarge), ("close 0", TooLarge), ("close 2", TooLarge),
                            ("decide 2 a// 1", TooLarge), ("decide 3 a// 1", NoCourt),
                            ("decide 0 a// 2", NoGrade), ("decide 0 c// 2", BadText), ("close 3", NoCourt)]:
            self.assertEqual(outcome(lambda: desk.answer(line))[0], error, line)
            self.assertIs(desk.diary, diary)
        self.assertEqual(len(desk.lines), 10)
        lines = ["lowest 1 a// 1", "lowest 1 a// 0", "lowest 2 ab// 0", "lowest 1 ab// 0", "told 1 a//", "settled 1 ab//"]
        self.assertEqual([desk.answer(line) for line in lines], ["1", "0", "0", "0", "not yet", "1"])

    def test_other_lines(self):
        desk = CourtDesk(TWO)
        for line in ["", "decide", "decide 0 a//", "decide 0 a// 1 1", "decide  0 a// 1", "Decide 0 a// 1", "close 0 0",
                     " close 0", "closed 0", "settled 0", "settled 0 a// 1",
                     "told 0", "told a//", "lowest 0 a//", "lowest", "strike 0", "regrade 0 1", "undo", "bounds a//",
                     "quarrels", "rule all 1 a//", "status all a//"]:
            self.assertEqual(outcome(lambda: desk.answer(line)), (NoCommand, {}), line)
        self.assertEqual((desk.lines, desk.diary.entries), ((), ()))

    def test_words_that_do_not_fit(self):
        desk = CourtDesk(Courts(AB, [-1, 0], [0, 1]))
        for word in NO_WORDS:
            for line in (f"decide 0 {word} 1", f"settled 0 {word}", f"told 0 {word}", f"lowest 0 {word} 1"):
                self.assertEqual(outcome(lambda: desk.answer(line)), (BadText, {"line": 1}), line)
        for word in NO_NUMBERS:
            for line in (f"decide {word} a// 1", f"decide 0 a// {word}", f"close {word}", f"settled {word} a//",
                         f"told {word} a//", f"lowest {word} a// 1",
                         f"lowest 0 a// {word}"):
                self.assertEqual(outcome(lambda: desk.answer(line)), (BadText, {"line": 1}), line)
        check_order(self, desk, COURT_FORMS, AB)

    def test_lines_with_one_sign_changed(self):
        check_forms(self, CourtDesk(Courts(AB, [-1, 0], [0, 1])), COURT_FORMS, AB)

    def test_reply_and_two_desks(self):
        one, other = CourtDesk(TWO), CourtDesk(TWO)
        self.assertEqual([one.reply(["decide", "0", "a//", "1"]), one.reply(words=("close", "0"))], ["0", "0"])
        self.assertEqual((one.lines, len(one.diary.entries), len(other.diary.entries)), ((), 2, 0))
