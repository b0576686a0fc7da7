"""Desks for what should fall (points 95 to 97)."""

import unittest

from settledcases.bookdesk import BookDesk
from settledcases.changes import changes_price, least_changes
from settledcases.docket import Docket
from settledcases.errors import BadText, NoCommand, NotYesNo
from settledcases.evening import even_changes
from settledcases.falldesk import FallDesk
from settledcases.falls import falls
from settledcases.forum import Forum
from settledcases.overruling import overruled
from tests.desks import DESK_FORUMS, FALL_FORMS, check_forms, check_order, dockets, outcome
from tests.test_bookdesk import expected_answers

AB = Forum("ab")


def joined(asked):
    """What is returned with single spaces between, or the error."""
    return outcome(lambda: " ".join(str(entry) for entry in asked()))


class FallDeskTest(unittest.TestCase):
    def test_each_line(self):
        desk = FallDesk(Docket(AB))
        self.assertIsInstance(desk, BookDesk)
        self.assertEqual(desk.run("overruled\nfalls\nchanges\nchanges high\nprice\neven"), ["", "", "", "", "0", ""])
        desk.run("decide a// 1\ndecide ab// 0\ndecide b// 1")
        self.assertEqual(desk.run("overruled\nfalls\nchanges\nchanges high\nprice\neven"),
                         ["1", "never always never", "1 1 1", "1 1 1", "1", "0 0 0"])
        desk.answer("strike 2")
        self.assertEqual(desk.run("overruled\nfalls\nchanges\nchanges high\nprice\neven"),
                         ["0", "sometimes sometimes", "0 0", "1 1", "1", "0 0"])
        desk = FallDesk(docket=Docket(AB, 4))
        desk.run("decide // 4\ndecide a// 1\ndecide ab// 2")
        self.assertEqual(desk.run("overruled\nfalls\nchanges\nchanges high\nprice\neven"),
                         ["refused", "refused", "1 1 2", "2 2 2", "3", "2 2 2"])

    def test_many(self):
        quarrels = 0
        for docket in dockets(DESK_FORUMS, (1, 2, 3, 4), (0, 1, 2, 4, 10), 3):
            desk, book = FallDesk(docket), docket.now
            low, high = least_changes(book), least_changes(book, high=True)
            self.assertEqual(changes_price(book, low), changes_price(book, high))
            for line, expected in [
                ("overruled", joined(lambda: overruled(book))), ("falls", joined(lambda: falls(book))),
                ("changes", joined(lambda: low)),
                ("changes high", joined(lambda: high)), ("price", str(changes_price(book, low))),
                ("even", joined(lambda: even_changes(book))),
            ]:
                self.assertEqual(outcome(lambda: desk.answer(line)), expected)
            quarrels += low != high
        self.assertGreater(quarrels, 5)

    def test_not_yes_no(self):
        for docket in dockets([AB], (2, 3, 4), (0, 3), 1):
            for line in ("overruled", "falls"):
                self.assertEqual(outcome(lambda: FallDesk(docket).answer(line)), (NotYesNo, {}))

    def test_lines_of_a_book_desk(self):
        for docket in dockets(DESK_FORUMS[:3], (1, 3), (0, 4), 2):
            for line, expected in expected_answers(docket):
                self.assertEqual(outcome(lambda: FallDesk(docket).answer(line)), expected)

    def test_other_lines(self):
        desk = FallDesk(Docket(AB))
        for line in ["overruled ", " overruled", "overruled 0", "fall", "falls 1", "changes low", "changes ",
                     "changes high ", "changes  high", "high",
                     "changes High", "Changes high", "price 1", "even 0", "events", "", "asks", "paper rising",
                     "verdict rising a//"]:
            self.assertEqual(outcome(lambda: desk.answer(line)), (NoCommand, {}), line)
        self.assertEqual(outcome(lambda: desk.answer("bounds c//")), (BadText, {"line": 1}))
        check_order(self, desk, FALL_FORMS, AB)

    def test_lines_with_one_sign_changed(self):
        for docket in dockets([AB], (1, 2), (3,), 1):
            check_forms(self, FallDesk(docket), FALL_FORMS, docket.forum)

    def test_the_docket_and_reply(self):
        docket = Docket(AB)
        desk = FallDesk(docket)
        self.assertIs(desk.docket, docket)
        docket.attempt([("decide", (1, 0), 1), ("decide", (1, 1), 0)])
        self.assertEqual([desk.reply(["price"]), desk.reply(words=("changes", "high"))], ["1", "1 1"])
        self.assertEqual(desk.together("undo\nprice"), ["1 0", "0"])
        self.assertEqual(desk.lines, ("undo", "price"))
