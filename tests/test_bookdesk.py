"""Desks for the deeds and the book of a docket (points 95 to 97)."""

import random
import unittest

from settledcases.book import settled
from settledcases.bookdesk import BookDesk
from settledcases.desk import Desk
from settledcases.docket import Docket
from settledcases.errors import (
    AtOdds, BadText, CourtError, NoCommand, NoGrade, NoRow, NothingToRedo, NothingToUndo, TooLarge,
)
from settledcases.forum import Forum
from settledcases.journal import journal
from settledcases.leastbook import least_book, spare_rows
from settledcases.settling import unsettled
from tests.desks import BOOK_FORMS, DESK_FORUMS, NO_NUMBERS, NO_WORDS, check_forms, check_order, dockets, outcome
from tests.support import all_cases, all_quarrels, is_beneath, word_by_hand
from tests.test_docket import depth, state

AB = Forum("ab")
DEEDS = ["decide a// 1", "decide ab// 0", "strike 0", "regrade 0 1", "undo", "redo"]


def all_of(desk):
    """All that can be seen of a desk and its docket."""
    return state(desk.docket), depth(desk.docket), desk.lines


def expected_answers(docket):
    """Each line that asks about the book, with its answer or its error."""
    forum, rows, book = docket.forum, list(docket), docket.now
    words = {case: word_by_hand(forum, case) for case in all_cases(forum)}
    for case, word in words.items():
        low = max([grade for other, grade in rows if is_beneath(other, case)], default=0)
        high = min([grade for other, grade in rows if is_beneath(case, other)], default=docket.top)
        yield f"bounds {word}", f"{low} {high}"
        grade = outcome(lambda: settled(book, case))
        yield f"settled {word}", "unsettled" if grade is None else str(grade) if isinstance(grade, int) else grade
    yield "quarrels", " ".join(f"{low}:{high}" for low, high in all_quarrels(rows))
    yield "unsettled", outcome(lambda: " ".join(words[case] for case in unsettled(book)))
    head = f"{forum.text} {docket.top}"
    yield "least", outcome(lambda: "\n".join([head] + [f"{words[case]} {grade}" for case,
                                                       grade in least_book(book).rows]))
    yield "spare", outcome(lambda: " ".join(str(number) for number in spare_rows(book)))


class LinesTest(unittest.TestCase):
    """Point 95."""

    def test_each_line(self):
        desk = BookDesk(Docket(AB, 2))
        self.assertIsInstance(desk, Desk)
        for line, answer in [
            ("bounds a//", "0 2"), ("settled a//", "unsettled"), ("unsettled", "// b// a// ab//"), ("quarrels", ""),
            ("least", "ab// 2"), ("spare", ""),
            ("decide a// 2", "1 0"), ("decide ab// 1", "2 1"), ("quarrels", "0:1"), ("bounds ab//", "2 1"),
            ("undo", "1 0"), ("redo", "2 1"),
            ("regrade 1 2", "2 0"), ("settled ab//", "2"), ("settled //", "unsettled"), ("unsettled", "// b//"),
            ("spare", "1"),
            ("least", "ab// 2\na// 2"), ("decide // 2", "3 0"), ("unsettled", ""), ("strike 0", "2 0"),
            ("decide a// 1", "3 1"), ("decide a// 0", "4 3"),
            ("quarrels", "1:2 1:3 2:3"), ("strike 1", "3 1"),
        ]:
            self.assertEqual(desk.answer(line), answer, line)
        self.assertEqual(list(desk.docket), [((1, 1), 2), ((1, 0), 1), ((1, 0), 0)])

    def test_questions(self):
        seen = set()
        for docket in dockets(DESK_FORUMS, (1, 2, 3, 4), (0, 1, 2, 3, 6, 10), 2):
            desk, before = BookDesk(docket), (state(docket), depth(docket))
            for line, expected in expected_answers(docket):
                found = outcome(lambda: desk.answer(line))
                self.assertEqual(found, expected, line)
                seen.add(found[0] if isinstance(found, tuple) else str)
            self.assertEqual((state(docket), depth(docket)), before)
        self.assertEqual(seen, {str, AtOdds})

    def test_deeds(self):
        for docket in dockets(DESK_FORUMS[:5], (1, 3), (0, 2, 9), 2):
            other, desk = Docket(docket.forum, docket.top), BookDesk(docket)
            other.attempt(docket.deeds)
            source, words = random.Random(docket.forum.text), [word_by_hand(docket.forum, case)
                                                               for case in all_cases(docket.forum)]
            for _ in range(40):
                number, grade, place = source.randrange(5), source.randrange(5), source.randrange(len(words))
                line, deed = source.choice([
                    (f"decide {words[place]} {grade}", ("decide", all_cases(docket.forum)[place], grade)),
                    (f"strike {number}", ("strike", number)),
                    (f"regrade {number} {grade}", ("regrade", number, grade)), ("undo", ("undo",)), ("redo", ("redo",)),
                ])
                expected = outcome(lambda: other.attempt([deed]))
                rows = list(other)
                answer = f"{len(rows)} {len(all_quarrels(rows))}"
                self.assertEqual(outcome(lambda: desk.answer(line)), answer if expected is None else expected)
                self.assertEqual((state(docket), depth(docket)), (state(other), depth(other)))
            self.assertEqual(journal(docket), journal(other))

    def test_errors_of_deeds(self):
        desk = BookDesk(Docket(AB))
        for line, error in [
            ("decide a// 2", NoGrade), ("strike 0", NoRow), ("regrade 0 1", NoRow), ("regrade 0 2", NoGrade),
            ("undo", NothingToUndo),
            ("redo", NothingToRedo), ("strike " + "9" * 1000, NoRow), ("regrade 0 " + "9" * 1000, NoGrade),
            ("decide a// " + "9" * 1000, NoGrade),
            ("strike " + "9" * 1001, BadText), ("regrade 0 x", BadText), ("decide c// 5", BadText),
        ]:
            self.assertEqual(outcome(lambda: desk.answer(line))[0], error)
        self.assertEqual(desk.run("\n".join(["decide a// 1"] * 10)), [f"{number} 0" for number in range(1, 11)])
        self.assertEqual([outcome(lambda: desk.answer(f"decide a// {grade}"))[0] for grade in (1, 2)],
                         [TooLarge, NoGrade])
        self.assertEqual(len(desk.lines), 10)

    def test_at_odds(self):
        desk = BookDesk(Docket(AB, 3))
        desk.run("decide ab// 0\ndecide // 0\ndecide // 2\ndecide a// 1")
        for line in ("settled ab//", "unsettled", "least", "spare"):
            self.assertEqual(outcome(lambda: desk.answer(line)), (AtOdds, {"low": 2, "high": 0}))
        self.assertEqual(desk.run("bounds ab//\nquarrels"), ["2 0", "2:0 2:1 2:3 3:0"])

    def test_words_that_do_not_fit(self):
        desk = BookDesk(Docket(AB))
        desk.answer("decide a// 1")
        for word in NO_WORDS:
            for line in (f"decide {word} 1", f"bounds {word}", f"settled {word}"):
                self.assertEqual(outcome(lambda: desk.answer(line)), (BadText, {"line": 1}), line)
        for word in NO_NUMBERS:
            for line in (f"decide a// {word}", f"strike {word}", f"regrade {word} 1", f"regrade 0 {word}"):
                self.assertEqual(outcome(lambda: desk.answer(line)), (BadText, {"line": 1}), line)
        check_order(self, desk, BOOK_FORMS, AB)

    def test_lines_of_no_form(self):
        desk = BookDesk(Docket(AB))
        desk.answer("decide a// 1")
        for line in [
            "", " ", "decide", "decide a//", "decide a// 1 ", " decide a// 1", "decide  a// 1", "decide a//  1",
            "decide a// 1 1", "Decide a// 1", "strike",
            "strike 0 0", " strike 0", "strike 0 ", "STRIKE 0", "regrade 0", "regrade", "regrade 0 1 1", "undo ",
            " undo", "undo 1", "Undo", "redo 0", "bounds",
            "bounds a// b//", "settled", "settled a// ", "unsettled a//", "unsettled ", "quarrels 0", "quarrel",
            "least a//", "leasts", "spare 0", "overruled",
            "falls", "changes", "price", "even", "verdict rising a//", "opinion a//", "paper rising", "check closed",
            "asks", "ask", "width", "duel 1", "rule all 1 a//",
            "status all a//", "close 0", "told 0 a//", "lowest 0 a// 1", "decide 0 a// 1", "now", "trial", "attempt",
        ]:
            self.assertEqual(outcome(lambda: desk.answer(line)), (NoCommand, {}), line)
        self.assertEqual(desk.lines, ("decide a// 1",))

    def test_lines_with_one_sign_changed(self):
        for docket in dockets([AB, Forum("a", "m", (2,))], (1, 2), (3,), 1):
            check_forms(self, BookDesk(docket), BOOK_FORMS, docket.forum)

    def test_reply(self):
        desk = BookDesk(docket=Docket(AB))
        self.assertEqual([desk.reply(["decide", "a//", "1"]), desk.reply(words=("bounds", "a//"))], ["1 0", "1 1"])
        self.assertEqual((desk.lines, list(desk.docket)), ((), [((1, 0), 1)]))


class DocketTest(unittest.TestCase):
    """Point 97."""

    def test_the_very_docket(self):
        docket = Docket(AB)
        desk = BookDesk(docket)
        self.assertIs(desk.docket, docket)
        desk.answer("decide a// 1")
        self.assertEqual((list(docket), docket.deeds), ([((1, 0), 1)], (("decide", (1, 0), 1),)))
        docket.decide((1, 1), 0)
        self.assertEqual(desk.run("quarrels\nundo\nquarrels"), ["0:1", "1 0", ""])
        self.assertEqual(list(docket), [((1, 0), 1)])
        with self.assertRaises(NoRow):
            with docket.trial():
                desk.answer("decide // 1")
                desk.answer("strike 7")
        self.assertEqual((desk.answer("bounds //"), desk.lines),
                         ("0 1", ("decide a// 1", "quarrels", "undo", "quarrels", "decide // 1", "bounds //")))

    def test_two_desks_on_one_docket(self):
        docket = Docket(AB)
        one, other = BookDesk(docket), BookDesk(docket)
        self.assertEqual([one.answer("decide a// 1"), other.answer("decide b// 0"), one.answer("undo"),
                          other.answer("bounds a//")], ["1 0", "2 0", "1 0", "1 1"])
        self.assertEqual((one.lines, other.lines), (("decide a// 1", "undo"), ("decide b// 0", "bounds a//")))

    def test_nothing_is_done_at_the_beginning(self):
        docket = Docket(AB)
        docket.decide((1, 0), 1)
        desk = BookDesk(docket)
        self.assertEqual((desk.lines, len(docket.deeds)), ((), 1))


class TogetherTest(unittest.TestCase):
    """Point 97."""

    def setUp(self):
        self.desk = BookDesk(Docket(AB))
        self.desk.run("decide a// 1\ndecide b// 1\nstrike 0\nundo")
        self.before = all_of(self.desk)

    def test_all_lines(self):
        self.assertEqual(self.desk.together("decide ab// 0\nquarrels\nundo\nbounds b//"),
                         ["3 2", "0:2 1:2", "2 0", "1 1"])
        self.assertEqual(self.desk.lines, self.before[2] + ("decide ab// 0", "quarrels", "undo", "bounds b//"))
        self.assertEqual((list(self.desk.docket), len(self.desk.docket.deeds)), ([((1, 0), 1), ((0, 1), 1)], 6))
        self.assertEqual(self.desk.together(text="redo"), ["3 2"])
        self.assertEqual(self.desk.lines[-1], "redo")
        self.assertIsInstance(self.desk.together("redo" if depth(self.desk.docket)[1] else "undo"), list)

    def test_a_line_that_is_refused(self):
        bad = [("strike 7", NoRow), ("", NoCommand), ("decide c// 1", BadText), ("regrade 0 5", NoGrade),
               ("falls", NoCommand)]
        good = ["decide ab// 1", "strike 0", "undo", "undo", "redo", "quarrels", "regrade 0 0"]
        for at in range(len(good) + 1):
            for line, error in bad:
                for later in (good[at:], [other for other, _ in bad], []):
                    with self.assertRaises(error):
                        self.desk.together("\n".join(good[:at] + [line] + later))
                    self.assertEqual(all_of(self.desk), self.before)

    def test_fields_of_the_error(self):
        with self.assertRaises(AtOdds) as caught:
            self.desk.together("decide ab// 0\nsettled a//\nstrike 9")
        self.assertEqual((caught.exception.low, caught.exception.high), (0, 2))
        self.assertEqual(all_of(self.desk), self.before)

    def test_one_empty_line(self):
        for text in ("", "\n", "undo\n", "\nundo", "undo\n\nundo"):
            with self.assertRaises(NoCommand):
                self.desk.together(text)
            self.assertEqual(all_of(self.desk), self.before)

    def test_in_a_trial(self):
        docket = self.desk.docket
        with self.assertRaises(KeyError):
            with docket.trial():
                self.desk.answer("strike 1")
                with self.assertRaises(NoRow):
                    self.desk.together("strike 0\nstrike 0")
                self.assertEqual(list(docket), [((1, 0), 1)])
                self.assertEqual(self.desk.lines, self.before[2] + ("strike 1",))
                self.assertEqual(self.desk.together("strike 0\nundo"), ["0 0", "1 0"])
                raise KeyError
        self.assertEqual((state(docket), depth(docket)), self.before[:2])
        self.assertEqual(self.desk.lines, self.before[2] + ("strike 1", "strike 0", "undo"))

    def test_exceptions_of_other_classes(self):
        class Odd(BookDesk):
            def reply(self, words):
                return {"odd": super().reply}[words[0]](words[1:])
        desk = Odd(self.desk.docket)
        self.assertEqual(desk.together("odd strike 0\nodd undo"), ["1 0", "2 0"])
        before = all_of(desk)
        with self.assertRaises(KeyError):
            desk.together("odd strike 0\neven strike 0")
        self.assertEqual(all_of(desk), before)

    def test_runs_against_each_other(self):
        """What is done together has the same effect as line by line, if no line is refused."""
        source = random.Random(97)
        for _ in range(200):
            lines = [source.choice(DEEDS + ["quarrels", "bounds a//", "settled a//"])
                     for _ in range(source.randrange(1, 7))]
            one, other = BookDesk(Docket(AB)), BookDesk(Docket(AB))
            answers = other.run("\n".join(lines))
            try:
                self.assertEqual(one.together("\n".join(lines)), answers)
                self.assertEqual(all_of(one), all_of(other))
            except CourtError:
                self.assertIn("refused", answers)
                self.assertEqual(all_of(one), all_of(BookDesk(Docket(AB))))
