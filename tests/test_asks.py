"""Asks, and how many of them are enough (points 78 to 81)."""

import unittest
from itertools import product

from settledcases.asks import best_ask, fewest_asks, hard_answer
from settledcases.book import Book
from settledcases.errors import AtOdds, NoCase, NotYesNo, TooLarge
from settledcases.forum import Forum
from settledcases.rising import rising_tables
from settledcases.settling import unsettled
from tests.support import FORUMS, HUGE, all_cases, all_quarrels, is_beneath, quiet_books, rising_maps, sample_books

AB = Forum("ab")
ABC = Forum("abc")
NINE = Forum("", "", (2, 2))
NO_CASES = [(), (0,), (0, 0, 0), (2, 0), (0, -1), (HUGE, 0)]


def unsettled_by_hand(book):
    """The unsettled cases of a book without a quarrel, ascending."""
    found = []
    for case in all_cases(book.forum):
        low = max([grade for other, grade in book.rows if is_beneath(other, case)], default=0)
        high = min([grade for other, grade in book.rows if is_beneath(case, other)], default=book.top)
        found += [case] if low < high else []
    return found


def remainders(cases, case):
    """What the answers 1 and 0 at the case leave of a set of cases."""
    above = frozenset(other for other in cases if is_beneath(case, other))
    beneath = frozenset(other for other in cases if is_beneath(other, case))
    return cases - above, cases - beneath


def worth_by_hand(cases, known={frozenset(): 0}):
    """The worth of a frozen set of cases, by the words of point 80."""
    if cases not in known:
        known[cases] = 1 + min(max(worth_by_hand(rest) for rest in remainders(cases, case)) for case in cases)
    return known[cases]


def asks_for(judges, known):
    """How many asks tell these judges, which are tuples of grades, from one another, if they are chosen well."""
    if len(judges) == 1:
        return 0
    if judges not in known:
        found = []
        for number in range(len(min(judges))):
            sides = [frozenset(judge for judge in judges if judge[number] == grade) for grade in (0, 1)]
            if all(sides):
                found.append(1 + max(asks_for(side, known) for side in sides))
        known[judges] = min(found)
    return known[judges]


def small_books(most=8):
    """Books without a quarrel with at most so many unsettled cases."""
    for book in quiet_books(FORUMS, (1,), (0, 1, 2, 3, 5, 8), 4):
        if len(unsettled_by_hand(book)) <= most:
            yield book


def large_books():
    """Books without a quarrel with more than 8 unsettled cases."""
    for book in quiet_books(FORUMS, (1,), (0, 1, 2), 2):
        if len(unsettled_by_hand(book)) > 8:
            yield book


class UnsettledCasesTest(unittest.TestCase):
    """Points 78 and 79."""

    def test_every_rising_way_has_a_judge(self):
        for book in small_books():
            if book.forum.size <= 8:
                cases = unsettled_by_hand(book)
                places = [all_cases(book.forum).index(case) for case in cases]
                found = {tuple(table[place] for place in places) for table in rising_tables(book)}
                ways = [dict(zip(cases, grades)) for grades in product((0, 1), repeat=len(cases))]
                rising = [way for way in ways if all(way[x] <= way[y] for x in cases for y in cases if is_beneath(x, y))]
                self.assertEqual(found, {tuple(way.values()) for way in rising})

    def test_what_an_answer_settles(self):
        for book in small_books():
            cases = unsettled_by_hand(book)
            for case in cases if len(book.rows) < 10 else []:
                above, beneath = remainders(frozenset(cases), case)
                self.assertEqual(list(unsettled(book.added(case, 1))), sorted(above))
                self.assertEqual(list(unsettled(book.added(case, 0))), sorted(beneath))
                self.assertNotIn(case, above | beneath)


class FewestAsksTest(unittest.TestCase):
    """Points 78 to 80."""

    def test_example(self):
        book = Book(AB)
        self.assertEqual([fewest_asks(book), best_ask(book), hard_answer(book, (0, 1)), hard_answer(book, (1, 1))],
                         [3, (0, 1), 0, 1])

    def test_numbers_of_unsettled_cases(self):
        one = Book(Forum("a"), 1, [((0,), 0)])
        self.assertEqual([fewest_asks(Book(Forum("a"), 1, [((0,), 1)])), fewest_asks(one)], [0, 1])
        self.assertEqual([len(unsettled_by_hand(Book(ABC))), len(unsettled_by_hand(Book(NINE)))], [8, 9])
        self.assertEqual(fewest_asks(Book(ABC)), worth_by_hand(frozenset(all_cases(ABC))))
        for asked in (fewest_asks, best_ask, lambda book: hard_answer(book, (1, 1))):
            with self.assertRaises(TooLarge):
                asked(Book(NINE))

    def test_chains_and_loose_cases(self):
        # A chain of n cases takes as many asks as n has binary digits; cases that are not beneath each other one each.
        for top, asks in [(1, 2), (2, 2), (3, 3)]:
            self.assertEqual(fewest_asks(Book(Forum("", "", (top,)))), asks)
        pairs = [case for case in all_cases(Forum("abcd")) if sum(case) == 2]
        rows = [(case, 1) for case in all_cases(Forum("abcd")) if sum(case) == 3]
        rows += [(case, 0) for case in all_cases(Forum("abcd")) if sum(case) == 1]
        book = Book(Forum("abcd"), 1, rows)
        self.assertEqual(unsettled_by_hand(book), pairs)
        self.assertEqual(fewest_asks(book), 6)

    def test_many(self):
        counts = set()
        for book in small_books():
            cases = unsettled_by_hand(book)
            counts.add(len(cases))
            self.assertEqual(fewest_asks(book), worth_by_hand(frozenset(cases)))
        self.assertTrue({0, 1, 2, 4, 8} <= counts, counts)

    def test_all_strategies(self):
        """So many asks are always enough, and fewer are not."""
        for forum in FORUMS[:7] + [ABC]:
            judges = [tuple(judge.values()) for judge in rising_maps(forum, 1)] if forum.size <= 8 else []
            for book in sample_books([forum], (1,), (0, 1, 2), 3) if judges else []:
                if not all_quarrels(book.rows):
                    numbers = [(all_cases(forum).index(case), grade) for case, grade in book.rows]
                    keeping = frozenset(judge for judge in judges if all(judge[k] == grade for k, grade in numbers))
                    self.assertEqual(fewest_asks(book), asks_for(keeping, {}))


class BestAskTest(unittest.TestCase):
    """Point 81."""

    def test_nothing_unsettled(self):
        self.assertIsNone(best_ask(Book(AB, 1, [((0, 0), 1)])))
        self.assertIsNone(best_ask(Book(AB, 1, [((0, 1), 1), ((1, 0), 1), ((0, 0), 0)])))

    def test_first_one(self):
        self.assertEqual(best_ask(Book(AB, 1, [((1, 1), 1), ((0, 0), 0)])), (0, 1))
        self.assertEqual(best_ask(Book(Forum("", "", (3,)))), (0,))
        self.assertEqual(best_ask(Book(Forum("", "", (2,)))), (1,))
        self.assertEqual(best_ask(Book(Forum("a"))), (0,))

    def test_many(self):
        later = 0
        for book in small_books():
            cases = frozenset(unsettled_by_hand(book))
            worths = {case: max(worth_by_hand(rest) for rest in remainders(cases, case)) for case in sorted(cases)}
            best = [case for case in sorted(cases) if worths[case] == min(worths.values())]
            self.assertEqual(best_ask(book), best[0] if best else None)
            later += bool(best) and best[0] != min(cases)
        self.assertGreater(later, 10)


class HardAnswerTest(unittest.TestCase):
    """Point 81."""

    def test_settled_cases(self):
        book = Book(AB, 1, [((1, 0), 1), ((0, 0), 0)])
        self.assertEqual([hard_answer(book, case) for case in [(0, 0), (1, 0), (1, 1)]], [0, 1, 1])
        for book in small_books():
            for case in set(all_cases(book.forum)) - set(unsettled_by_hand(book)):
                won = any(grade == 1 and is_beneath(other, case) for other, grade in book.rows)
                self.assertEqual(hard_answer(book, case), 1 if won else 0)

    def test_equal_worths(self):
        self.assertEqual(hard_answer(Book(Forum("a"), 1, [((0,), 0)]), (1,)), 0)
        self.assertEqual(hard_answer(Book(AB, 1, [((1, 1), 1), ((0, 0), 0)]), (0, 1)), 0)
        self.assertEqual([hard_answer(Book(Forum("", "", (2,))), case) for case in [(0,), (1,), (2,)]], [0, 0, 1])

    def test_many(self):
        seen = set()
        for book in small_books():
            cases = frozenset(unsettled_by_hand(book))
            for case in cases:
                one, zero = [worth_by_hand(rest) for rest in remainders(cases, case)]
                seen.add((one > zero) - (one < zero))
                self.assertEqual(hard_answer(book, case=case), 1 if one > zero else 0)
        self.assertEqual(seen, {-1, 0, 1})


class ErrorsTest(unittest.TestCase):
    def test_too_large(self):
        found = 0
        for book in large_books():
            found += 1
            for asked in (fewest_asks, best_ask):
                with self.assertRaises(TooLarge):
                    asked(book)
            for case in all_cases(book.forum):
                with self.assertRaises(TooLarge):
                    hard_answer(book, case)
        self.assertGreater(found, 10)

    def test_too_large_for_a_settled_case(self):
        book = Book(NINE, 1, [((2, 2), 1)])
        self.assertEqual(hard_answer(book, (2, 2)), 1)
        book = Book(Forum("abcde"), 1, [((1, 0, 0, 0, 0), 1)])
        self.assertEqual(len(unsettled_by_hand(book)), 16)
        for case in [(1, 0, 0, 0, 0), (1, 1, 0, 0, 1)]:
            with self.assertRaises(TooLarge):
                hard_answer(book, case)

    def test_at_odds(self):
        for forum in (AB, Forum("abcd")):
            low, high = forum.weakest_case, forum.strongest_case
            book = Book(forum, 1, [(low, 0), (high, 0), (low, 1), (low, 1)])
            for asked in (fewest_asks, best_ask, lambda book: hard_answer(book, book.forum.weakest_case)):
                with self.assertRaises(AtOdds) as caught:
                    asked(book)
                self.assertEqual((caught.exception.low, caught.exception.high), (2, 0))

    def test_not_yes_no_first(self):
        for rows in ([], [((0, 0), 1), ((1, 1), 0)]):
            for top in (2, 3, 4):
                book = Book(AB, top, rows)
                for asked in (fewest_asks, best_ask):
                    with self.assertRaises(NotYesNo):
                        asked(book)
                for case in [(0, 0)] + NO_CASES:
                    with self.assertRaises(NotYesNo):
                        hard_answer(book, case)
        with self.assertRaises(NotYesNo):
            fewest_asks(Book(NINE, 2))

    def test_no_case_ahead_of_the_rest(self):
        for book in (Book(AB), Book(AB, 1, [((0, 0), 1), ((1, 1), 0)]), Book(Forum("abcde"))):
            for wrong in NO_CASES:
                with self.assertRaises(NoCase):
                    hard_answer(book, wrong)
