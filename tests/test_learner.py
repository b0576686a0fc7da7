"""Learners, who ask a judge (points 82 and 83)."""

import unittest

from settledcases.book import Book
from settledcases.errors import AtOdds, Bound, Finished, NoGrade, NotYesNo, OtherForum
from settledcases.exchange import ExchangedJudge, exchanged_forum
from settledcases.forum import Forum
from settledcases.judges import CeilingJudge, FloorJudge, Judge
from settledcases.kinds import RankedJudge, SingleJudge, WeighingJudge
from settledcases.learner import Learner, asked
from settledcases.rising import TableJudge
from tests.support import FORUMS, HUGE, all_cases, all_quarrels, is_beneath, rising_maps, sample_books

AB = Forum("ab")
ABC = Forum("abc")
FIVE = Forum("abcde")


def left_by_hand(forum, rows):
    """The cases that these decisions leave unsettled, ascending."""
    found = []
    for case in all_cases(forum):
        won = any(grade == 1 and is_beneath(other, case) for other, grade in rows)
        lost = any(grade == 0 and is_beneath(case, other) for other, grade in rows)
        found += [] if won or lost else [case]
    return found


def ask_by_hand(cases):
    """The next ask, by the words of point 82."""
    smaller = {}
    for case in cases:
        above = sum(is_beneath(case, other) for other in cases)
        beneath = sum(is_beneath(other, case) for other in cases)
        smaller[case] = min(above, beneath)
    return [case for case in cases if smaller[case] == max(smaller.values())][0]


def judges_of(forum):
    """Judges of every kind."""
    won, lost = [(forum.strongest_case, 1)], [(forum.weakest_case, 0)]
    steps = range(len(forum.steps))
    yield from (Judge(forum), FloorJudge(forum, 1, won), CeilingJudge(forum, 1, lost), FloorJudge(forum, 1, won + lost))
    yield from (SingleJudge(forum, 0), RankedJudge(forum, [(step, step % 2) for step in steps], 1))
    yield from (WeighingJudge(forum, [step + 1 for step in steps], 2),
                TableJudge(forum, 1, SingleJudge(forum, 0).table()))
    other = exchanged_forum(forum)
    yield from (ExchangedJudge(SingleJudge(other, steps[-1])), ExchangedJudge(Judge(other)))


class LearnerTest(unittest.TestCase):
    """Point 82."""

    def test_new_learner(self):
        book = Book(AB, 1, [((0, 0), 0)])
        learner = Learner(book)
        self.assertIs(learner.start, book)
        self.assertEqual((learner.answers, learner.remaining), ((), 3))
        self.assertEqual(learner.judge().rows, book.rows)
        self.assertEqual(Learner(book=Book(FIVE)).remaining, 32)

    def test_first_asks(self):
        self.assertEqual(Learner(Book(AB)).next_ask(), (0, 1))
        self.assertEqual(Learner(Book(Forum("", "", (3,)))).next_ask(), (1,))
        self.assertEqual(Learner(Book(Forum("", "", (2,)))).next_ask(), (1,))
        self.assertEqual(Learner(Book(AB, 1, [((0, 0), 0)])).next_ask(), (0, 1))
        self.assertEqual(Learner(Book(FIVE)).next_ask(), ask_by_hand(all_cases(FIVE)))

    def test_next_ask_changes_nothing(self):
        learner = Learner(Book(ABC))
        self.assertEqual([learner.next_ask() for _ in range(3)], [(0, 0, 1)] * 3)
        self.assertEqual((learner.answers, learner.remaining), ((), 8))

    def test_answers(self):
        learner = Learner(Book(AB))
        self.assertIsNone(learner.answer(0))
        self.assertEqual((learner.answers, learner.remaining), ((((0, 1), 0),), 2))
        self.assertIsNone(learner.answer(grade=1))
        self.assertEqual((learner.answers, learner.remaining), ((((0, 1), 0), ((1, 0), 1)), 0))
        self.assertEqual(learner.judge().table(), (0, 0, 1, 1))

    def follow(self, forum, rows, learner):
        """Goes through both answers at each ask; the learner has taken the answers behind the rows of its book."""
        cases = left_by_hand(forum, rows)
        self.assertEqual(learner.remaining, len(cases))
        self.assertEqual(learner.start.rows + learner.answers, tuple(rows))
        if not cases:
            with self.assertRaises(Finished):
                learner.next_ask()
            self.assertEqual(learner.judge().rows, tuple(rows))
            return 1
        ask, count = ask_by_hand(cases), 0
        self.assertEqual(learner.next_ask(), ask)
        for grade in (0, 1):
            again = Learner(learner.start)
            for _, old in learner.answers + ((ask, grade),):
                again.answer(old)
            count += self.follow(forum, rows + [(ask, grade)], again)
        return count

    def test_all_answers(self):
        """Each judge that keeps the book is reached by one way of answering."""
        for forum in FORUMS[:7] + [ABC, Forum("", "zx", (3,))]:
            maps = list(rising_maps(forum, 1)) if forum.size <= 12 else []
            for book in sample_books([forum], (1,), (0, 1, 3), 2):
                if maps and not all_quarrels(book.rows):
                    keeping = [judge for judge in maps if all(judge[case] == grade for case, grade in book.rows)]
                    self.assertEqual(self.follow(forum, list(book.rows), Learner(book)), len(keeping))

    def test_more_than_ten_decisions(self):
        rows = [(FIVE.weakest_case, 0)] * 9 + [(FIVE.strongest_case, 1)]
        for answers in ((0, 1), (1, 0), (1, 1, 0)):
            learner = Learner(Book(FIVE, 1, rows))
            told = list(learner.start.rows)
            while learner.remaining > 0:
                cases = left_by_hand(FIVE, told)
                told.append((ask_by_hand(cases), answers[len(told) % len(answers)]))
                learner.answer(told[-1][1])
                self.assertEqual(learner.start.rows + learner.answers, tuple(told))
            self.assertGreater(len(told), 13)
            self.assertEqual(left_by_hand(FIVE, told), [])
            self.assertEqual((learner.judge().rows, learner.judge().top), (tuple(told), 1))
            self.assertTrue(learner.judge().keeps(learner.start))
            self.assertEqual([learner.judge()(case) for case, _ in learner.answers],
                             [grade for _, grade in learner.answers])

    def test_judge(self):
        learner = Learner(Book(AB, 1, [((1, 1), 1)]))
        first = learner.judge()
        learner.answer(1)
        self.assertIsInstance(first, FloorJudge)
        self.assertEqual((first.rows, first.top, first.forum), ((((1, 1), 1),), 1, AB))
        self.assertEqual(learner.judge().rows, (((1, 1), 1), ((0, 0), 1)))

    def test_refused_answers(self):
        learner = Learner(Book(AB))
        learner.answer(1)
        for grade in (-1, 2, HUGE, -HUGE):
            with self.assertRaises(NoGrade):
                learner.answer(grade)
        self.assertEqual((learner.answers, learner.remaining), ((((0, 1), 1),), 2))
        while learner.remaining:
            learner.answer(0)
        answers = learner.answers
        for grade in (0, 1):
            with self.assertRaises(Finished):
                learner.answer(grade)
        for grade in (-1, 2, HUGE):
            with self.assertRaises(NoGrade):
                learner.answer(grade)
        self.assertEqual((learner.answers, learner.remaining), (answers, 0))

    def test_wrong_books(self):
        for top in (2, 3, 4):
            for rows in ([], [((0, 0), 1), ((1, 1), 0)]):
                with self.assertRaises(NotYesNo):
                    Learner(Book(AB, top, rows))
        with self.assertRaises(AtOdds) as caught:
            Learner(Book(AB, 1, [((1, 1), 0), ((0, 0), 0), ((0, 1), 1), ((1, 0), 1)]))
        self.assertEqual((caught.exception.low, caught.exception.high), (2, 0))


class AskedTest(unittest.TestCase):
    """Point 83."""

    def test_example(self):
        judge = FloorJudge(AB, 1, [((1, 0), 1)])
        self.assertEqual(list(asked(Book(AB), judge)), [((0, 1), 0), ((1, 0), 1)])

    def test_nothing_to_ask(self):
        book = Book(AB, 1, [((0, 0), 1)])
        self.assertEqual(list(asked(book, FloorJudge(AB, 1, book.rows))), [])

    def test_judges_of_every_kind(self):
        for forum in FORUMS:
            for judge in judges_of(forum):
                for seed in range(3):
                    rows = [(case, judge(case)) for case in all_cases(forum)[seed::3 + seed]][:10 * seed]
                    book, told = Book(forum, 1, rows), list(rows)
                    found = list(asked(book=book, judge=judge))
                    while left_by_hand(forum, told):
                        ask = ask_by_hand(left_by_hand(forum, told))
                        told.append((ask, judge(ask)))
                    self.assertEqual(rows + found, told)
                    self.assertEqual(FloorJudge(forum, 1, told).table(), judge.table())

    def test_errors_in_order(self):
        """Each object breaks the promises from its error on, as far as it can."""
        quarrel = [((1, 0), 1), ((1, 1), 0)]
        lost = [((1, 1), 0), ((1, 0), 1)]
        zero = Judge(AB)
        for book, judge, error in [
            (Book(AB, 2), Judge(AB, 2), NotYesNo), (Book(AB, 3, quarrel), Judge(ABC), NotYesNo),
            (Book(AB, 2), zero, NotYesNo),
            (Book(AB, 1, quarrel), Judge(ABC), OtherForum), (Book(AB, 1, quarrel), Judge(AB, 2), OtherForum),
            (Book(AB), Judge(Forum("ba")), OtherForum), (Book(AB), Judge(Forum("a", "b")), OtherForum),
            (Book(AB, 1, quarrel), zero, AtOdds), (Book(AB, 1, lost), SingleJudge(AB, 0), AtOdds),
            (Book(AB, 1, [((1, 1), 1)]), zero, Bound), (Book(AB, 1, [((0, 0), 1)]), SingleJudge(AB, 0), Bound),
        ]:
            waiting = asked(book, judge)
            with self.assertRaises(error):
                next(waiting)

    def test_fields_of_the_errors(self):
        with self.assertRaises(AtOdds) as caught:
            list(asked(Book(AB, 1, [((1, 1), 0), ((0, 0), 0), ((0, 1), 1), ((1, 0), 1)]), Judge(AB)))
        self.assertEqual((caught.exception.low, caught.exception.high), (2, 0))
        rows = [((0, 0), 0), ((0, 1), 0), ((1, 0), 1), ((1, 1), 1)]
        with self.assertRaises(Bound) as caught:
            list(asked(Book(AB, 1, rows), Judge(AB)))
        self.assertEqual(caught.exception.row, 2)
        with self.assertRaises(Bound) as caught:
            list(asked(Book(AB, 1, rows), SingleJudge(AB, 1)))
        self.assertEqual(caught.exception.row, 1)
