"""What point 4 promises, over the whole program: of several errors the one that errors.py lists first is raised."""

import unittest
from itertools import product
from types import FunctionType

from settledcases import asks, book, booklines, chains, changes, climbing, courts, docket, duel, errors, evening
from settledcases import exchange, falls, forum, issues, judges, kinds, ladder, learner, leastbook, neighbors, order
from settledcases import overruling, panels, papers, rising, rules, settling, sidebooks, standing, suits, teaching
from settledcases import telling, thresholds, turns, web, widest
from settledcases.askdesk import AskDesk
from settledcases.bookdesk import BookDesk
from settledcases.courtdesk import CourtDesk
from settledcases.errors import (
    AtOdds, BadText, Bound, Closed, Finished, NoCase, NoCommand, NoCourt, NoForum, NoGrade, NoJudge, NoKeeper, NoPanel,
    NoPrice, NoRow, NoRule, NoRung,
    NotYesNo, OtherForum, TooLarge,
)
from settledcases.falldesk import FallDesk
from settledcases.issuedesk import IssueDesk
from settledcases.ladderdesk import LadderDesk
from tests.test_whole import seen_of

RANKS = [found for found in vars(errors).values() if isinstance(found, type)]
AB, BA, FIVE = forum.Forum("ab"), forum.Forum("ba"), forum.Forum("abcde")
A, B = forum.Forum("a"), forum.Forum("b")
LOW, LEFT, RIGHT, HIGH = (0, 0), (1, 0), (0, 1), (1, 1)
LOUD = [(LOW, 1), (HIGH, 0)]
BIG = 10 ** 5000

# Each option of an argument is a value and the errors that it brings, whatever the other arguments are.
CASES = [(LEFT, []), ((2, 0), [NoCase]), ((), [NoCase]), ((1, 0, 0), [NoCase]), ((BIG, 0), [NoCase])]
GRADES = [(1, []), (2, [NoGrade]), (-1, [NoGrade]), (BIG, [NoGrade])]
COURTS = [(1, []), (2, [NoCourt]), (-1, [NoCourt]), (BIG, [NoCourt])]
PRICES = [(None, []), ([1, 2], []), ([1], [NoPrice]), ([1, 0], [NoPrice]), ([1, 100, 1], [NoPrice]), ([], [NoPrice])]
TOPS = [(1, []), (0, [NoGrade]), (5, [NoGrade]), (BIG, [NoGrade])]
NEW_GRADES = [([1, 0], []), ([1, 3], [NoGrade]), ([1], [NoRow]), ([1, 3, 0], [NoGrade, NoRow]), ([], [NoRow]),
              ([-1], [NoGrade, NoRow])]


def made(the_forum, top, rows):
    return book.Book(the_forum, top, rows)


# Books of two rows with their errors.
YES_NO = [(made(AB, 1, LOUD), []), (made(AB, 2, LOUD), [NotYesNo]), (made(AB, 4, [(LOW, 0), (LOW, 4)]), [NotYesNo])]
QUIET = [(made(AB, 1, [(LOW, 0)]), []), (made(AB, 1, LOUD), [AtOdds])]
SMALL = [
    (made(AB, 1, [(LOW, 0)]), []), (made(AB, 1, LOUD), [AtOdds]), (made(FIVE, 1, []), [TooLarge]),
    (made(AB, 2, LOUD), [NotYesNo, AtOdds]),
    (made(FIVE, 3, []), [NotYesNo, TooLarge]),
]
TWO = courts.Courts(AB, [-1, 0], [1, 0])
FULL_ROWS = [(LEFT, 1)] * 10


def dockets(count):
    """A docket with so many rows."""
    found = docket.Docket(AB)
    found.attempt([("decide", LEFT, 1)] * count)
    return found


def ruled(count):
    """A Rules object with so many rows."""
    return rules.Rules(AB, [(LEFT, LEFT, 1)] * count)


def rulings(count, lost=False):
    """So many rulings, of which the last one goes against the others or not."""
    rows = [(((1,), None), "all", 1)] * count
    return suits.Rulings(suits.Suit([A, B]), rows[1:] + [(((1,), None), "any", 0)] if lost else rows)


def diary(count, closed):
    """A diary with so many entries, of which the first one closes court 1 or not."""
    entries = [("decide", 0, LEFT, 1)] * count
    return courts.Diary(TWO, [("close", 1)] + entries[1:] if closed else entries)


class OrderTest(unittest.TestCase):
    def check(self, call, *options):
        """Goes through all choices of options: the right error is raised, and nothing passed in is changed."""
        for chosen in product(*options):
            values = [value for value, _ in chosen]
            expected = [error for _, brought in chosen for error in brought]
            before = seen_of([value for value in values if not isinstance(value, FunctionType)])
            if expected:
                with self.assertRaises(errors.CourtError) as caught:
                    call(*values)
                self.assertIs(type(caught.exception), min(expected, key=RANKS.index), expected)
            else:
                call(*values)
            self.assertEqual(seen_of([value for value in values if not isinstance(value, FunctionType)]), before)

    def test_the_order_itself(self):
        self.assertEqual([found.__name__ for found in RANKS], [
            "CourtError", "NoForum", "BadText", "NotYesNo", "OtherForum", "NoCase", "NoGrade", "NoRow", "NoPrice",
            "NoRule", "NoCourt", "NoJudge", "TooLarge", "Unkept",
            "AtOdds", "NoKeeper", "NoPanel", "Bound", "Closed", "Finished", "NoRung", "NothingToUndo", "NothingToRedo",
            "NoCommand"])

    def test_forums_and_books(self):
        steps = [(0, []), (2, [NoRow]), (-1, [NoRow]), (BIG, [NoRow])]
        self.check(AB.reaches, CASES, steps)
        self.check(AB.number, CASES)
        self.check(AB.word, CASES)
        for asked in (order.between, neighbors.shortest_chain):
            self.check(lambda one, other: asked(AB, one, other), CASES, CASES)
        rows = [([], []), ([((3,), 0)], [NoCase]), ([(LEFT, -1)], [NoGrade]), (FULL_ROWS + [(LEFT, 0)], [TooLarge]),
                ([(LEFT, 7), ((), 0)], [NoCase, NoGrade]),
                (FULL_ROWS + [((), 9)], [NoCase, NoGrade, TooLarge]), (FULL_ROWS + [(LEFT, 9)], [NoGrade, TooLarge])]
        self.check(lambda top, found: book.Book(AB, top, found), TOPS, rows)
        for kind in (judges.FloorJudge, judges.CeilingJudge):
            lists = [(found, [error for error in brought if error is not TooLarge]) for found, brought in rows]
            self.check(lambda top, found: kind(AB, top, found), TOPS, lists)
        for count, brought in [(1, []), (10, [TooLarge])]:
            self.check(lambda found, case, grade: found.added(case, grade), [(made(AB, 1, FULL_ROWS[:count]), brought)],
                       CASES, GRADES)
        full = made(AB, 1, FULL_ROWS)
        others = [(made(AB, 1, [(LEFT, 1)]), []), (made(AB, 1, [(LEFT, 0)]), [TooLarge]),
                  (made(BA, 1, [(LEFT, 0)]), [OtherForum, TooLarge]), (made(AB, 2, [(LEFT, 0)]), [OtherForum, TooLarge])]
        self.check(lambda one, other: one | other, [(full, [])], others)
        self.check(book.settled, QUIET, CASES)
        self.check(book.bounds, [(made(AB, 1, LOUD), [])], CASES)
        self.check(lambda found, numbers: found - numbers, [(made(AB, 1, LOUD), [])],
                   [([0], []), ([0, 2], [NoRow]), ([-1], [NoRow])])

    def test_written_forms(self):
        self.check(booklines.read_book, [("ab// 1\n// 0", []), ("ab// 5\nx", [BadText]), ("ab// 1\n// 2", [BadText]),
                                         ("aa// 1", [BadText])])
        self.check(lambda cases: booklines.case_words(AB, cases), [([LEFT, LOW], []), ([LEFT, (3, 0)], [NoCase])])
        for text, line in [("ab// 1\n// 0\n// 3\nx", 3), ("ab// 1\nx\n// 3", 2), ("ab// 1" + "\n// 0" * 11 + "\nx", 12),
                           ("a\nx", 1)]:
            with self.assertRaises(BadText) as caught:
                booklines.read_book(text)
            self.assertEqual(caught.exception.line, line)

    def test_what_books_settle(self):
        self.check(settling.reasons, [(made(AB, 1, LOUD), [])], CASES)
        tables = [([0, 0, 1, 1], []), ([1, 0, 0, 0], [NoJudge]), ([0, 0], [NoJudge]), ([9, 9, 9, 9], [NoJudge])]
        self.check(lambda top, table: rising.TableJudge(AB, top, table), TOPS, tables)
        self.check(lambda found: list(rising.rising_tables(found)),
                   [(found, [error for error in brought if error is not AtOdds]) for found, brought in SMALL])
        pairs = [((made(AB, 1, []), made(AB, 1, [])), []), ((made(AB, 1, LOUD), made(AB, 1, [])), [AtOdds]),
                 ((made(AB, 1, []), made(AB, 1, LOUD)), [AtOdds]),
                 ((made(AB, 1, LOUD), made(BA, 1, LOUD)), [OtherForum, AtOdds]),
                 ((made(AB, 2, LOUD), made(AB, 1, LOUD)), [OtherForum, AtOdds, NotYesNo]),
                 ((made(BA, 2, LOUD), made(AB, 3, LOUD)), [OtherForum, AtOdds, NotYesNo]),
                 ((made(AB, 1, LOUD), made(AB, 4, [])), [OtherForum, AtOdds, NotYesNo]),
                 ((made(AB, 2, LOUD), made(AB, 2, LOUD)), [AtOdds, NotYesNo])]
        loose = [(pair, [error for error in brought if error is not NotYesNo]) for pair, brought in pairs]
        self.check(lambda pair: sidebooks.common(*pair), pairs)
        self.check(lambda pair: leastbook.settles_same(*pair), loose)
        self.check(lambda pair: list(sidebooks.dividing(*pair)), loose)
        for asked in (settling.least_judge, settling.greatest_judge, settling.settled_table, leastbook.least_book,
                      leastbook.spare_rows):
            self.check(asked, QUIET)

    def test_overrulings(self):
        sides = [([1, 2], []), ([1, 0], [NoPrice]), ([100, 1], [NoPrice])]
        pairs = [([(0, 1)], []), ([(2, 0)], [NoRow]), ([(0, 0), (0, -1)], [NoRow]), ([(BIG, 0)], [NoRow])]
        for asked in (web.least_cover, web.most_apart):
            self.check(asked, sides, sides, pairs)
        self.check(lambda *args: web.least_cover(*args, high=True), sides, sides, pairs)
        for asked in (overruling.best_grades, overruling.overruled, overruling.least_price, overruling.apart,
                      falls.falls, falls.safe_book,
                      lambda *args: list(falls.overrulings(*args))):
            self.check(asked, YES_NO, PRICES)
        for asked in (changes.least_changes, thresholds.award_papers):
            self.check(asked, [(found, []) for found, _ in YES_NO], PRICES)
        awards = [(made(AB, 2, LOUD), [])]
        for asked in (overruling.regraded, evening.greatest_change):
            self.check(asked, awards, NEW_GRADES)
        self.check(changes.changes_price, awards, NEW_GRADES, PRICES)

    def test_stacked(self):
        one, low = made(AB, 1, [(LEFT, 1)]), made(AB, 1, [(LEFT, 0)])
        self.check(thresholds.stacked, [
            ([one, low], []), ([one, made(AB, 2, [(RIGHT, 2)]), made(BA, 1, [])],
                               [NotYesNo, OtherForum, NoCase, NoGrade, NoRow]),
            ([one, made(BA, 1, [(RIGHT, 1), (LOW, 1)])], [OtherForum, NoCase, NoRow]),
            ([low, made(AB, 1, [(RIGHT, 1), (LOW, 1)])], [NoCase, NoGrade, NoRow]),
            ([low, one, made(AB, 1, [])], [NoGrade, NoRow]), ([one] * 4 + [made(AB, 1, [])], [NoGrade, NoRow]),
            ([one, made(AB, 1, [])], [NoRow]), ([], [NoGrade]),
            ([made(AB, 3, [])] * 5, [NotYesNo, NoGrade]),
        ])

    def test_rules(self):
        triples = [((HIGH, LEFT, 1), []), (((5, 0), LEFT, 1), [NoCase]), ((HIGH, (5, 0), 7), [NoCase, NoGrade]),
                   ((LEFT, HIGH, 2), [NoGrade]), ((LEFT, HIGH, 1), [NoRule]),
                   ((HIGH, LEFT, 0), [NoRule, Bound]), ((HIGH, HIGH, 0), [Bound])]
        # The object with 10 rows brings TooLarge, whatever the row is.
        for count, brought in [(1, []), (10, [TooLarge])]:
            self.check(lambda triple: ruled(count).decide(*triple),
                       [(triple, errors_of + brought) for triple, errors_of in triples])
        first = (LEFT, LEFT, 1)
        lists = [([first, triple], errors_of) for triple,
                 errors_of in triples] + [([first] * 10 + [triple], errors_of + [TooLarge]) for triple,
                                          errors_of in triples]
        lists += [([first, (HIGH, HIGH, 0), (LEFT, HIGH, 1), (LEFT, LOW, 5), (LEFT, (5,), 1)],
                   [NoCase, NoGrade, NoRule, Bound])]
        lists += [([first, (HIGH, HIGH, 0), (LEFT, HIGH, 1), (LEFT, LOW, 5)], [NoGrade, NoRule, Bound]),
                  ([first, (HIGH, HIGH, 0), (LEFT, HIGH, 1)], [NoRule, Bound])]
        self.check(lambda rows: rules.Rules(AB, rows), lists)
        self.check(widest.widest_rules, [(ruled(1), [])], CASES, GRADES)

    def test_ladder(self):
        grounds = [([(0, 1)], []), ([(0, 1), (0, 0)], [NoJudge]), ([(0, 1), (2, 5)], [NoRow, NoJudge]),
                   ([(-1, 0), (-1, 0)], [NoRow, NoJudge]), ([(1, 2)], [NoJudge])]
        self.check(lambda found, default: kinds.RankedJudge(AB, found, default), grounds,
                   [(0, []), (2, [NoJudge]), (-1, [NoJudge])])
        self.check(lambda weights: kinds.WeighingJudge(AB, weights, 0),
                   [([1, 0], []), ([1], [NoJudge]), ([1, -1], [NoJudge]), ([-1], [NoJudge])])
        self.check(kinds.RankedJudge(AB, [], 0).ground_for, CASES)
        keepers = [(made(AB, 1, [(LEFT, 1)]), []), (made(AB, 1, LOUD), [NoKeeper]),
                   (made(AB, 2, LOUD), [NotYesNo, NoKeeper]), (made(AB, 1, FULL_ROWS), [TooLarge]),
                   (made(AB, 1, LOUD * 5), [TooLarge, NoKeeper]),
                   (made(AB, 3, LOUD * 5), [NotYesNo, TooLarge, NoKeeper])]
        for kind in kinds.KINDS:
            self.check(lambda found, case: ladder.verdict(kind, found, case), keepers, CASES)
            self.check(lambda found: ladder.keeper(kind, found), YES_NO)
        found_papers = [(papers.Quarrel(0, 1), []), (papers.FailedSteps([1, 1]), [NoRung])]
        self.check(climbing.descend, found_papers, YES_NO)
        some = [(judges.Judge(AB), []), (judges.Judge(AB, 2), [NotYesNo]), (judges.Judge(FIVE), [TooLarge]),
                (judges.Judge(FIVE, 3), [NotYesNo, TooLarge])]
        self.check(climbing.rung_of, some)

    def test_suits(self):
        good, same = suits.Suit([A, B]), suits.Suit([A, A])
        parts = [(((1,), (0,)), []), (((1,), None), [NoCase]), ((None, None), [NoCase]), (((1,), (5,)), [NoCase]),
                 ((), [NoCase])]
        self.check(lambda found, whole: found.joined_case(whole), [(good, []), (same, [NoForum])], parts)
        wholes = [(((1,), None), []), ((None, None), [NoCase]), (((1,), (2,)), [NoCase]), (((1,),), [NoCase]),
                  ((), [NoCase])]
        for count, brought in [(1, []), (6, [TooLarge])]:
            self.check(lambda whole, grade: suits.Rulings(good,
                                                          [(((0,), None), "any", 1)] * count + [(whole, "all", grade)]),
                                                          [(whole, found + brought) for whole, found in wholes], GRADES)
            self.check(lambda found, whole, grade: found.added(whole, "any", grade), [(rulings(count), brought)],
                       wholes, GRADES)
        for count, lost, brought in [(1, False, []), (6, False, [TooLarge]), (2, True, [NoPanel]),
                                     (6, True, [TooLarge, NoPanel])]:
            self.check(lambda found, whole: issues.ruling_status(found, whole, "all"),
                       [(rulings(count, lost), brought)], wholes)
        panel_judges = [([judges.Judge(A), judges.Judge(B)], []), ([judges.Judge(A)], [NoJudge]),
                        ([judges.Judge(B)], [OtherForum, NoJudge]),
                        ([judges.Judge(A), judges.Judge(B), judges.Judge(A, 2)], [NotYesNo, NoJudge]),
                        ([judges.Judge(B), judges.Judge(A, 2)], [NotYesNo, OtherForum]),
                        ([judges.Judge(A), judges.Judge(A)], [OtherForum]), ([], [NoJudge]),
                        ([judges.Judge(B, 4)], [NotYesNo, OtherForum, NoJudge])]
        self.check(lambda found: panels.Panel(good, found), panel_judges)

    def test_courts(self):
        entries = [([("decide", 1, LEFT, 1)], []), ([("close", 1), ("decide", 1, (7,), 9)], [NoCase, NoGrade, Closed]),
                   ([("close", 1), ("decide", 1, LEFT, 9)], [NoGrade, Closed]),
                   ([("close", 5), ("decide", 5, LEFT, 1)], [NoCourt, Closed]),
                   ([("close", 1)] * 11, [TooLarge, Closed]), ([("close", 1)] * 2, [Closed]),
                   ([("close", 2)] * 11 + [("decide", -1, (), 3)], [NoCase, NoGrade, NoCourt, TooLarge, Closed]),
                   ([("decide", 9, LEFT, 3)], [NoGrade, NoCourt]),
                   ([("close", 1)] * 10 + [("close", 7)], [NoCourt, TooLarge, Closed])]
        self.check(lambda found: courts.Diary(TWO, found), entries)
        for count, closed, brought in [(1, False, []), (10, False, [TooLarge]), (1, True, [Closed]),
                                       (10, True, [TooLarge, Closed])]:
            # Only court 1 is closed, so an unknown court brings no Closed; NoCourt comes first all the same.
            found = diary(count, closed)
            self.check(lambda court, case, grade: found.decided(court, case, grade),
                       [(court, wrong + brought) for court, wrong in COURTS], CASES, GRADES)
            self.check(found.closed, [(court, wrong + brought) for court, wrong in COURTS])
            self.check(lambda court, case: telling.told(found, court, case), COURTS, CASES)
            self.check(lambda court, case, grade: telling.lowest_court(found, court, case, grade), COURTS, CASES,
                       GRADES)
            self.check(lambda court, case: turns.history(found, court, case), COURTS, CASES)
            for asked in (standing.binding, telling.final_book, telling.first_unclosed):
                self.check(lambda court: asked(found, court), COURTS)
        self.check(lambda court, case: turns.history(courts.Diary(TWO), court, case), COURTS, CASES)

    def test_asks(self):
        for asked in (asks.fewest_asks, asks.best_ask):
            self.check(asked, SMALL)
        self.check(asks.hard_answer, SMALL, [case for case in CASES if case[1]])
        for asked in (chains.fewest_chains, chains.widest, learner.Learner):
            self.check(asked, [(found, [error for error in brought if error is not TooLarge]) for found,
                               brought in SMALL])
        sides = [(0, []), (1, []), (2, [NoGrade]), (-1, [NoGrade]), (BIG, [NoGrade])]
        self.check(duel.duel_value, SMALL, sides)
        self.check(duel.duel_move, SMALL + [(made(AB, 1, [(LOW, 1)]), [Finished])], sides)
        two = [((made(AB, 1, [(LOW, 0)]), judges.Judge(AB)), []),
               ((made(AB, 1, [(LOW, 1)]), judges.Judge(AB)), [Bound]),
               ((made(AB, 1, LOUD), judges.Judge(AB)), [AtOdds, Bound]),
               ((made(AB, 1, LOUD), judges.Judge(BA)), [OtherForum, AtOdds]),
               ((made(AB, 2, LOUD), judges.Judge(BA)), [NotYesNo, OtherForum, AtOdds]),
               ((made(AB, 1, LOUD), judges.Judge(AB, 2)), [OtherForum, AtOdds]),
               ((made(AB, 2, []), judges.Judge(AB, 2)), [NotYesNo])]
        self.check(lambda pair: list(learner.asked(*pair)), two)
        self.check(lambda pair: teaching.teaching(*pair), two)
        turned = [(judges.Judge(AB), [NoJudge]), (judges.Judge(AB, 3), [NotYesNo, NoJudge])]
        self.check(teaching.turned_judge, turned, CASES)
        finished = learner.Learner(made(AB, 1, [(LOW, 1)]))
        self.check(lambda taught, grade: taught.answer(grade), [(finished, [Finished])], GRADES)

    def test_dockets(self):
        for count, brought in [(1, []), (10, [TooLarge])]:
            self.check(lambda case, grade: dockets(count).decide(case, grade),
                       [(case, wrong + brought) for case, wrong in CASES], GRADES)
        numbers = [(0, []), (2, [NoRow]), (-1, [NoRow]), (BIG, [NoRow])]
        self.check(lambda number, grade: dockets(2).regrade(number, grade), numbers, GRADES)
        self.check(lambda number, grade: dockets(2).__setitem__(number, grade), numbers, GRADES)
        self.check(lambda number: dockets(2).strike(number), numbers)
        self.check(lambda top: docket.Docket(AB, top), TOPS)
        # The first deed that is refused raises its error, even if a later one would raise one that is listed earlier.
        self.check(lambda deeds: dockets(2).attempt(deeds),
                   [([("strike", 7)], [NoRow]), ([("redo",)], [errors.NothingToRedo])])
        for deeds, error in [([("strike", 7), ("decide", (), 1)], NoRow),
                             ([("redo",), ("regrade", 0, 8)], errors.NothingToRedo)]:
            with self.assertRaises(error):
                dockets(2).attempt(deeds)

    def test_desks(self):
        cases, numbers = [("a//", []), ("c//", [BadText]), ("", [BadText])], [("0", []), ("5", [NoRow]),
                                                                              ("05", [BadText]), ("", [BadText])]
        grades = [("1", []), ("2", [NoGrade]), ("-1", [BadText]), ("9" * 1000, [NoGrade])]
        for count, brought in [(1, []), (10, [TooLarge])]:
            desks = [(lambda: BookDesk(dockets(count)), brought)]
            self.check(lambda found, *words: found().answer(" ".join(("decide",) + words)), desks, cases, grades)
        self.check(lambda *words: BookDesk(dockets(1)).answer(" ".join(("regrade",) + words)), numbers, grades)
        loud, awards = docket.Docket(AB), docket.Docket(AB, 2)
        for found in (loud, awards):
            found.attempt([("decide", case, grade) for case, grade in LOUD])
        books = [(lambda: docket.Docket(AB), []), (lambda: loud, [AtOdds]), (lambda: awards, [NotYesNo, AtOdds])]
        self.check(lambda found, word: BookDesk(found()).answer(f"settled {word}"),
                   [books[0], books[1], (books[2][0], [AtOdds])], cases)
        self.check(lambda found, side: AskDesk(found()).answer(f"duel {side}"), books, grades)
        self.check(lambda found: AskDesk(found()).answer("ask"), books)
        kinds_of = [("ranked", []), ("Ranked", [BadText])]
        ladders = [books[0], (books[1][0], [NoKeeper]), (books[2][0], [NotYesNo])]
        self.check(lambda found, kind, word: LadderDesk(found()).answer(f"verdict {kind} {word}"), ladders, kinds_of,
                   cases)
        texts = [("quarrel 0 1", []), ("quarrel 0 01", [BadText]), ("paper", [BadText])]
        self.check(lambda found, text: LadderDesk(found()).answer(f"check {text}"),
                   [books[0], (books[1][0], []), (books[2][0], [NotYesNo])], texts)
        self.check(lambda found, line: FallDesk(found()).answer(line),
                   [books[0], (books[1][0], []), (books[2][0], [NotYesNo])], [("falls", []), ("overruled", [])])
        for line in ("falls 1", "duel", "check", "verdict ranked"):
            self.check(lambda found: AskDesk(found()).answer(line), [(books[2][0], [NoCommand])])

    def test_desks_for_issues_and_courts(self):
        def issue_desk(count, lost):
            found = IssueDesk(suits.Suit([A, B]))
            for parts, mode, grade in rulings(count, lost):
                found.answer(f"rule {mode} {grade} {'a//' if parts[0] == (1,) else '//'} -")
            return found
        modes, parts = [("all", []), ("one", [BadText])], [("a// b//", []), ("- -", [NoCase]), ("b// -", [BadText]),
                                                           ("a// ", [BadText])]
        grades = [("0", []), ("2", [NoGrade]), ("00", [BadText])]
        for count, lost, brought in [(1, False, []), (6, False, [TooLarge]), (2, True, []), (6, True, [TooLarge])]:
            desks = [(lambda: issue_desk(count, lost), brought)]
            self.check(lambda found, *words: found().answer(" ".join(("rule",) + words)), desks, modes, grades, parts)
            desks = [(lambda: issue_desk(count, lost), brought + [NoPanel] * lost)]
            self.check(lambda found, *words: found().answer(" ".join(("status",) + words)), desks, modes, parts)

        def court_desk(count, closed):
            found = CourtDesk(TWO)
            found.run("\n".join([("close 1" if closed and day == 0 else "decide 0 a// 1") for day in range(count)]))
            return found
        cases, numbers = [("a//", []), ("x", [BadText])], [("1", []), ("4", [NoCourt]), ("01", [BadText])]
        for count, closed, brought in [(1, False, []), (10, False, [TooLarge]), (1, True, [Closed]),
                                       (10, True, [TooLarge, Closed])]:
            desks = [(lambda: court_desk(count, closed), brought)]
            self.check(lambda found, *words: found().answer(" ".join(("decide",) + words)), desks, numbers, cases,
                       grades)
            self.check(lambda found, number: found().answer(f"close {number}"), desks, numbers)
            desks = [(lambda: court_desk(count, closed), [])]
            self.check(lambda found, *words: found().answer(" ".join(("lowest",) + words)), desks, numbers, cases,
                       grades)
            for word in ("told", "settled"):
                self.check(lambda found, *words: found().answer(" ".join((word,) + words)), desks, numbers, cases)

    def test_rules_against_one_row(self):
        self.check(lambda case: rules.narrowed((HIGH, LEFT, 1), case), [(LEFT, []), (HIGH, [NoRule])])
        self.check(lambda case: exchange.exchanged_case(AB, case), CASES)
