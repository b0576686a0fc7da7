"""The desk that knows the lines of all desks for dockets (points 95 to 97)."""

import random
import unittest

from settledcases.askdesk import AskDesk
from settledcases.bookdesk import BookDesk
from settledcases.courthouse import Courthouse
from settledcases.docket import Docket
from settledcases.errors import NoCommand, NoRow
from settledcases.falldesk import FallDesk
from settledcases.forum import Forum
from settledcases.ladderdesk import LadderDesk
from tests.desks import (
    ASK_FORMS, BOOK_FORMS, DESK_FORUMS, FALL_FORMS, LADDER_FORMS, check_forms, check_order, dockets, filled, outcome,
)
from tests.test_docket import depth, state

AB = Forum("ab")
FORMS = FALL_FORMS + LADDER_FORMS[len(BOOK_FORMS):] + ASK_FORMS[len(BOOK_FORMS):]


def copy_of(docket):
    """Another docket on which the same deeds were done."""
    found = Docket(docket.forum, docket.top)
    found.attempt(docket.deeds)
    return found


class CourthouseTest(unittest.TestCase):
    def test_example(self):
        house = Courthouse(Docket(Forum("ab"), 1))
        self.assertEqual(house.run("decide a// 1\ndecide ab// 0\nfalls\nundo\nopinion b//"),
                         ["1 0", "2 1", "sometimes sometimes", "1 0", "0 unsettled unsettled unsettled"])

    def test_bases(self):
        house = Courthouse(docket=Docket(AB))
        for kind in (FallDesk, LadderDesk, AskDesk, BookDesk):
            self.assertIsInstance(house, kind)
        self.assertEqual([house.reply(["ask"]), house.reply(words=("paper", "rising")), house.reply(("price",))],
                         ["b//", "kept", "0"])
        self.assertEqual(house.lines, ())

    def test_each_line_as_its_desk(self):
        source = random.Random(97)
        for docket in dockets(DESK_FORUMS, (1, 2, 4), (0, 1, 3, 5, 10), 1):
            for form in FORMS:
                line = filled(form, docket.forum, source)
                for kind, forms in [(BookDesk, BOOK_FORMS), (FallDesk, FALL_FORMS), (LadderDesk, LADDER_FORMS),
                                    (AskDesk, ASK_FORMS)]:
                    house, desk = Courthouse(copy_of(docket)), kind(copy_of(docket))
                    if form in forms:
                        self.assertEqual(outcome(lambda: house.answer(line)), outcome(lambda: desk.answer(line)), line)
                        self.assertEqual((state(house.docket), depth(house.docket)),
                                         (state(desk.docket), depth(desk.docket)))
                        self.assertEqual(house.lines, desk.lines)

    def test_other_lines(self):
        house = Courthouse(Docket(AB))
        for line in ["", " ", "fall", "falls 1", "check", "duel", "ask 1", "told 0 a//", "close 0", "rule all 1 a//",
                     "status all a//", "lowest 0 a// 1",
                     "settled 0 a//", "decide 0 a// 1", "courthouse"]:
            self.assertEqual(outcome(lambda: house.answer(line)), (NoCommand, {}), line)
        check_order(self, house, FORMS, AB)

    def test_lines_with_one_sign_changed(self):
        for docket in dockets([AB], (1, 2), (3,), 1):
            check_forms(self, Courthouse(docket), FORMS, docket.forum)

    def test_together(self):
        docket = Docket(AB)
        house = Courthouse(docket)
        self.assertIs(house.docket, docket)
        self.assertEqual(house.together("decide a// 1\nasks\nopinion b//\nprice"),
                         ["1 0", "2", "0 unsettled unsettled unsettled", "0"])
        before = (state(docket), depth(docket), house.lines)
        with self.assertRaises(NoRow):
            house.together("undo\nasks\nstrike 0")
        self.assertEqual((state(docket), depth(docket), house.lines), before)

    def test_other_orders_of_the_desks(self):
        """Each desk leaves other lines to the next class in Python's order of the classes."""
        class Mixed(AskDesk, LadderDesk, FallDesk):
            def reply(self, words):
                return "mixed" if words == ["mixed"] else super().reply(words)
        mixed, house = Mixed(Docket(AB)), Courthouse(Docket(AB))
        text = "decide a// 1\ndecide ab// 0\nfalls\nopinion b//\nundo\nasks\nwidth\npaper single\nprice"
        self.assertEqual(mixed.run("mixed\n" + text), ["mixed"] + house.run(text))
        self.assertNotIn("refused", house.run("quarrels\neven\ncheck closed\nask"))
