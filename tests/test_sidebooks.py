"""Common decisions and dividing cases (points 11 and 27)."""

import unittest

from settledcases.book import Book, quarrels, settled
from settledcases.errors import AtOdds, NotYesNo, OtherForum
from settledcases.forum import Forum
from settledcases.judges import CeilingJudge, FloorJudge
from settledcases.sidebooks import common, dividing
from tests.support import FORUMS, quiet_books

AB = Forum("ab")
QUARREL = Book(AB, 1, [((0, 0), 1), ((1, 1), 0)])
OTHER_QUARREL = Book(AB, 1, [((1, 1), 0), ((0, 0), 1)])


def pairs_of_books(tops):
    """Pairs of books without quarrels that have the same forum and top."""
    books = list(quiet_books(FORUMS[:9], tops, (0, 1, 2, 4), 3))
    for a in books:
        for b in books:
            if a.forum.text == b.forum.text and a.top == b.top:
                yield a, b


class CommonTest(unittest.TestCase):
    def test_examples(self):
        a = Book(Forum("abc"), 1, [((1, 0, 0), 1), ((0, 1, 1), 0), ((0, 0, 0), 0)])
        b = Book(Forum("abc"), 1, [((0, 0, 1), 1), ((0, 1, 0), 0), ((1, 1, 1), 1)])
        self.assertEqual(common(a, b), [((1, 0, 1), 1), ((0, 1, 0), 0)])
        self.assertEqual(common(b, a), [((1, 0, 1), 1), ((0, 1, 0), 0)])

    def test_several_of_each(self):
        forum = Forum("abcd")
        a = Book(forum, 1, [((1, 0, 0, 0), 1), ((0, 1, 0, 0), 1), ((0, 0, 1, 0), 0), ((0, 0, 0, 1), 0)])
        self.assertEqual(common(a, a), [
            ((0, 1, 0, 0), 1), ((1, 0, 0, 0), 1), ((0, 0, 0, 1), 0), ((0, 0, 1, 0), 0)])

    def test_no_won_or_no_lost_rows(self):
        a = Book(AB, 1, [((1, 0), 1), ((0, 1), 0)])
        self.assertEqual(common(a, Book(AB)), [])
        self.assertEqual(common(Book(AB), a), [])
        self.assertEqual(common(Book(AB), Book(AB)), [])
        self.assertEqual(common(a, Book(AB, 1, [((0, 1), 0)])), [((0, 1), 0)])
        self.assertEqual(common(a, Book(AB, 1, [((1, 0), 1)])), [((1, 0), 1)])

    def test_what_both_books_settle(self):
        for a, b in pairs_of_books((1,)):
            rows = common(a, b)
            floor, ceiling = FloorJudge(a.forum, 1, rows), CeilingJudge(a.forum, 1, rows)
            won = [case for case in a.forum if settled(a, case) == 1 and settled(b, case) == 1]
            lost = [case for case in a.forum if settled(a, case) == 0 and settled(b, case) == 0]
            self.assertEqual([case for case in a.forum if floor(case) == 1], won)
            self.assertEqual([case for case in a.forum if ceiling(case) == 0], lost)
            # Ascending within each grade, and none of them could be left out.
            self.assertEqual(rows, sorted([row for row in rows if row[1] == 1]) + sorted([row for row in rows if row[1] == 0]))
            self.assertEqual(len(set(rows)), len(rows))
            for row in rows:
                fewer = [other for other in rows if other != row]
                judge = FloorJudge if row[1] == 1 else CeilingJudge
                self.assertNotEqual(judge(a.forum, 1, fewer)(row[0]), row[1])

    def test_errors_in_order(self):
        other = Forum("ba")
        for a, b, error in [
            (Book(AB, 2), Book(AB, 2), NotYesNo), (Book(AB, 2), Book(AB), NotYesNo), (Book(AB), Book(other, 2), NotYesNo),
            (QUARREL, Book(AB, 3), NotYesNo), (Book(AB), Book(other), OtherForum), (QUARREL, Book(other), OtherForum),
            (Book(other), QUARREL, OtherForum), (QUARREL, Book(AB), AtOdds), (Book(AB), QUARREL, AtOdds),
        ]:
            with self.assertRaises(error):
                common(a, b)

    def test_whose_quarrel(self):
        for a, b, pair in [
            (QUARREL, Book(AB), (0, 1)), (Book(AB), OTHER_QUARREL, (1, 0)), (QUARREL, OTHER_QUARREL, (0, 1)),
            (OTHER_QUARREL, QUARREL, (1, 0)),
        ]:
            for asked in (common, lambda a, b: list(dividing(a, b))):
                with self.assertRaises(AtOdds) as caught:
                    asked(a, b)
                self.assertEqual((caught.exception.low, caught.exception.high), pair)


class DividingTest(unittest.TestCase):
    def test_examples(self):
        a = Book(AB, 1, [((0, 1), 1)])
        b = Book(AB, 1, [((1, 1), 0)])
        self.assertEqual(list(dividing(a, b)), [(0, 1), (1, 1)])
        self.assertEqual(list(dividing(b, a)), [(0, 1), (1, 1)])
        self.assertEqual(list(dividing(a, a)), [])
        self.assertEqual(list(dividing(a, Book(AB))), [])

    def test_other_tops(self):
        a = Book(AB, 3, [((0, 0), 1), ((1, 0), 1), ((1, 1), 3)])
        b = Book(AB, 3, [((1, 0), 2), ((1, 1), 2), ((0, 0), 1)])
        self.assertEqual(list(dividing(a, b)), [(1, 0), (1, 1)])

    def test_all_pairs(self):
        for a, b in pairs_of_books((1, 2, 3)):
            found = []
            for case in a.forum:
                grades = {settled(a, case), settled(b, case)}
                if None not in grades and len(grades) == 2:
                    found.append(case)
            self.assertEqual(list(dividing(a, b)), found)

    def test_joined_books(self):
        for a, b in pairs_of_books((1,)):
            if len(a.rows) + len(b.rows) > 10:
                continue
            both = a | b
            self.assertEqual(quarrels(both) != [], list(dividing(a, b)) != [])
            if not quarrels(both):
                for case in a.forum:
                    grades = {settled(a, case), settled(b, case)} - {None}
                    self.assertEqual({settled(both, case)} - {None}, grades)

    def test_errors_in_order(self):
        for a, b, error in [
            (Book(AB), Book(AB, 2), OtherForum), (QUARREL, Book(Forum("ba")), OtherForum), (Book(AB, 2), QUARREL, OtherForum),
            (QUARREL, Book(AB), AtOdds), (Book(AB), QUARREL, AtOdds),
        ]:
            waiting = dividing(a, b)
            with self.assertRaises(error):
                next(waiting)
