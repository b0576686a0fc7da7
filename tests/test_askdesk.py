"""Desks for asks and duels (points 95 to 97)."""

import unittest

from settledcases.askdesk import AskDesk
from settledcases.asks import best_ask, fewest_asks
from settledcases.bookdesk import BookDesk
from settledcases.chains import widest
from settledcases.docket import Docket
from settledcases.duel import duel_value
from settledcases.errors import AtOdds, BadText, NoCommand, NoGrade, NotYesNo, TooLarge
from settledcases.forum import Forum
from tests.desks import ASK_FORMS, DESK_FORUMS, check_forms, check_order, dockets, outcome
from tests.support import word_by_hand
from tests.test_bookdesk import expected_answers

AB = Forum("ab")


def ask_word(docket):
    """The written form of the best ask."""
    found = best_ask(docket.now)
    return "" if found is None else word_by_hand(docket.forum, found)


class AskDeskTest(unittest.TestCase):
    def test_each_line(self):
        desk = AskDesk(Docket(AB))
        self.assertIsInstance(desk, BookDesk)
        for line, answer in [
            ("asks", "3"), ("ask", "b//"), ("width", "2"), ("duel 0", "0"), ("duel 1", "4"), ("decide // 0", "1 0"),
            ("asks", "3"), ("duel 0", "0"), ("duel 1", "2"),
            ("decide ab// 1", "2 0"), ("asks", "2"), ("ask", "b//"), ("width", "2"), ("duel 0", "1"),
            ("decide a// 1", "3 0"), ("asks", "1"), ("width", "1"),
            ("decide b// 1", "4 0"), ("asks", "0"), ("ask", ""), ("width", "0"), ("duel 0", "0"), ("duel 1", "0"),
        ]:
            self.assertEqual(desk.answer(line), answer, line)

    def test_many(self):
        seen = set()
        for docket in dockets(DESK_FORUMS, (1, 2, 3, 4), (0, 1, 2, 4, 10), 3):
            desk, book = AskDesk(docket), docket.now
            for line, asked in [
                ("asks", lambda: str(fewest_asks(book))), ("ask", lambda: ask_word(docket)),
                ("width", lambda: str(len(widest(book)))),
                ("duel 0", lambda: str(duel_value(book, 0))), ("duel 1", lambda: str(duel_value(book, 1))),
                ("duel 2", lambda: str(duel_value(book, 2))),
            ]:
                found = outcome(lambda: desk.answer(line))
                self.assertEqual(found, outcome(asked), line)
                seen.add((line, found[0] if isinstance(found, tuple) else str))
        for line in ("asks", "ask", "duel 0", "duel 1"):
            self.assertLessEqual({(line, kind) for kind in (str, AtOdds, TooLarge, NotYesNo)}, seen)
        self.assertEqual({kind for line, kind in seen if line == "width"}, {str, AtOdds, NotYesNo})
        self.assertEqual({kind for line, kind in seen if line == "duel 2"}, {NoGrade, NotYesNo})

    def test_errors(self):
        desk = AskDesk(Docket(AB))
        for side in ("2", "7", "9" * 1000):
            self.assertEqual(outcome(lambda: desk.answer(f"duel {side}")), (NoGrade, {}))
        for side in ("", "-1", "01", "one", "9" * 1001):
            self.assertEqual(outcome(lambda: desk.answer(f"duel {side}")), (BadText, {"line": 1}))
        large = AskDesk(Docket(Forum("abcd")))
        self.assertEqual([outcome(lambda: large.answer(line)) for line in ("asks", "ask", "duel 0")],
                         [(TooLarge, {})] * 3)
        self.assertEqual(large.answer("width"), "6")
        check_order(self, desk, ASK_FORMS, AB)

    def test_lines_of_a_book_desk(self):
        for docket in dockets(DESK_FORUMS[:3], (1, 3), (0, 4), 2):
            for line, expected in expected_answers(docket):
                self.assertEqual(outcome(lambda: AskDesk(docket).answer(line)), expected)

    def test_other_lines(self):
        desk = AskDesk(Docket(AB))
        for line in ["asks ", "asks 0", "ask a//", " ask", "Ask", "width 1", "widest", "duel", "duel 0 1", "duel  1",
                     "duels 1", "price", "paper rising", "check closed"]:
            self.assertEqual(outcome(lambda: desk.answer(line)), (NoCommand, {}), line)

    def test_lines_with_one_sign_changed(self):
        for docket in dockets([AB], (1, 2), (3,), 1):
            check_forms(self, AskDesk(docket), ASK_FORMS, docket.forum)

    def test_the_docket_and_reply(self):
        docket = Docket(AB)
        desk = AskDesk(docket=docket)
        self.assertIs(desk.docket, docket)
        docket.decide((0, 0), 1)
        self.assertEqual([desk.reply(["ask"]), desk.reply(words=("duel", "1"))], ["", "0"])
        self.assertEqual(desk.together("asks\nundo\nasks"), ["0", "0 0", "3"])
