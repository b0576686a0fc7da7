"""Dockets, deeds and trials (points 89 to 93)."""

import random
import unittest
from itertools import product

from settledcases.book import Book
from settledcases.docket import Docket
from settledcases.errors import AtOdds, CourtError, NoCase, NoGrade, NoRow, NothingToRedo, NothingToUndo, TooLarge
from settledcases.forum import Forum
from tests.support import FORUMS, HUGE, all_cases, all_quarrels, is_beneath

AB = Forum("ab")
NO_CASES = [(), (0,), (0, 0, 0), (2, 0), (0, -1), (HUGE, 0)]
NO_GRADES = (-1, 2, HUGE, -HUGE)
UNDO, REDO = ("undo",), ("redo",)
WON, LOST = ("decide", (0, 0), 1), ("decide", (1, 1), 0)


class Model:
    """A docket by the words of points 89 to 91, with lists and with stacks of deeds."""

    def __init__(self, forum, top):
        self.cases, self.top = all_cases(forum), top
        self.rows, self.deeds, self.first, self.second = [], [], [], []

    def error(self, deed):
        """The class of the error that refuses the deed, or None."""
        word, *told = deed
        if word == "decide":
            if told[0] not in self.cases:
                return NoCase
            if told[1] not in range(self.top + 1):
                return NoGrade
            return TooLarge if len(self.rows) == 10 else None
        if word == "regrade" and told[1] not in range(self.top + 1):
            return NoGrade
        if word in ("strike", "regrade"):
            return None if told[0] in range(len(self.rows)) else NoRow
        if word == "undo":
            return None if self.first else NothingToUndo
        return None if self.second else NothingToRedo

    def change(self, deed):
        """Changes the rows only."""
        word, *told = deed
        if word == "decide":
            self.rows.append(tuple(told))
        elif word == "strike":
            del self.rows[told[0]]
        else:
            self.rows[told[0]] = (self.rows[told[0]][0], told[1])

    def do(self, deed):
        """Does a deed that is not refused."""
        if deed == UNDO:
            undone, before = self.first.pop()
            self.second.append(undone)
            self.rows = list(before)
        elif deed == REDO:
            again = self.second.pop()
            self.first.append((again, list(self.rows)))
            self.change(again)
        else:
            self.first.append((deed, list(self.rows)))
            self.second = []
            self.change(deed)
        self.deeds.append(deed)


def do(docket, deed):
    """Does the deed by the method of its name."""
    word, *told = deed
    return getattr(docket, word)(*told)


def state(docket):
    """All that can be seen of a docket at once."""
    return list(docket), docket.deeds, docket.now.rows, docket.odds


def depth(docket):
    """How many undos and redos a docket has left; they are done in a trial that fails."""
    counts = []
    for deed, error in ((UNDO, NothingToUndo), (REDO, NothingToRedo)):
        counts.append(0)
        try:
            with docket.trial():
                while True:
                    do(docket, deed)
                    counts[-1] += 1
        except error:
            pass
    return counts


def sample_deeds(forum, top, count, seed, wrong=True):
    """Deeds of every kind, some of them refused, always the same ones for the same arguments."""
    source = random.Random(f"{forum.text} {top} {count} {seed}")
    cases, grades = all_cases(forum), range(-1, top + 2) if wrong else range(top + 1)
    for _ in range(count):
        kind = source.choice(["decide"] * 4 + ["strike", "regrade", "undo", "undo", "redo", "redo"])
        if kind == "decide":
            yield kind, source.choice(cases + [(5,)] if wrong else cases), source.choice(grades)
        elif kind == "strike":
            yield kind, source.choice([-1, 0, 0, 1, 2, 5, 9, 10] if wrong else [0])
        elif kind == "regrade":
            yield kind, source.choice([-1, 0, 0, 1, 2, 5, 9, 10] if wrong else [0]), source.choice(grades)
        else:
            yield (kind,)


class DocketTest(unittest.TestCase):
    def refused(self, docket, deed, error):
        """Checks that the deed is refused with exactly this error and changes nothing."""
        before, depths = state(docket), depth(docket)
        with self.assertRaises(error) as caught:
            do(docket, deed)
        self.assertIs(type(caught.exception), error)
        self.assertEqual((state(docket), depth(docket)), (before, depths))


class FieldsTest(DocketTest):
    """Points 89 and 92."""

    def test_new_docket(self):
        for top in (1, 2, 3, 4):
            docket = Docket(AB, top)
            self.assertIs(docket.forum, AB)
            self.assertEqual((docket.top, docket.deeds, list(docket), docket.odds), (top, (), [], ()))
            self.assertEqual((docket.now.forum.text, docket.now.top, docket.now.rows), ("ab//", top, ()))
        self.assertEqual((Docket(forum=AB).top, Docket(AB, top=2).top), (1, 2))
        for top in (0, -1, 5, HUGE, -HUGE):
            with self.assertRaises(NoGrade):
                Docket(AB, top)

    def test_rows(self):
        docket = Docket(AB, 2)
        docket.decide((1, 0), 2)
        docket.decide((1, 1), 1)
        docket.decide((1, 0), 2)
        self.assertEqual(list(docket), [((1, 0), 2), ((1, 1), 1), ((1, 0), 2)])
        self.assertEqual([docket[number] for number in range(3)], [((1, 0), 2), ((1, 1), 1), ((1, 0), 2)])
        self.assertIs(((1, 0), 2) in docket, True)
        for absent in [((1, 0), 1), ((0, 0), 2), ((1, 1), 2), ((1, 1), HUGE)]:
            self.assertIs(absent in docket, False)
        for number in (-1, 3, HUGE, -HUGE):
            with self.assertRaises(NoRow):
                docket[number]
        self.assertIsInstance(docket.now, Book)
        self.assertEqual((docket.now.rows, docket.now.top, docket.now.forum), (tuple(docket), 2, AB))
        self.assertEqual(docket.odds, ((0, 1), (2, 1)))

    def test_present_book(self):
        docket = Docket(AB)
        docket.decide((1, 0), 1)
        book, odds = docket.now, docket.odds
        docket.decide((1, 1), 0)
        self.assertEqual((book.rows, odds), ((((1, 0), 1),), ()))
        self.assertEqual((docket.now.rows, docket.odds), ((((1, 0), 1), ((1, 1), 0)), ((0, 1),)))

    def test_bounds(self):
        docket = Docket(AB, 3)
        docket.decide((1, 0), 2)
        docket.decide((1, 1), 1)
        self.assertEqual([docket.bounds_at(case) for case in all_cases(AB)], [(0, 1), (0, 1), (2, 1), (2, 1)])
        self.assertEqual(docket.bounds_at(case=(0, 0)), (0, 1))
        for wrong in NO_CASES:
            with self.assertRaises(NoCase):
                docket.bounds_at(wrong)

    def test_many(self):
        for forum in FORUMS:
            for top in (1, 3):
                docket = Docket(forum, top)
                for deed in sample_deeds(forum, top, 40, 1):
                    try:
                        do(docket, deed)
                    except CourtError:
                        pass
                rows = list(docket)
                self.assertEqual(docket.odds, tuple(all_quarrels(rows)))
                for case in all_cases(forum):
                    low = max([grade for other, grade in rows if is_beneath(other, case)], default=0)
                    high = min([grade for other, grade in rows if is_beneath(case, other)], default=top)
                    self.assertEqual(docket.bounds_at(case), (low, high))


class DeedsTest(DocketTest):
    """Points 90 and 91."""

    def test_each_deed(self):
        docket = Docket(AB)
        results = [docket.decide((1, 0), 1), docket.decide((0, 1), 0), docket.decide((1, 1), 1)]
        self.assertEqual(list(docket), [((1, 0), 1), ((0, 1), 0), ((1, 1), 1)])
        results += [docket.strike(0), docket.regrade(1, 0)]
        self.assertEqual(list(docket), [((0, 1), 0), ((1, 1), 0)])
        results += [docket.undo()]
        self.assertEqual(list(docket), [((0, 1), 0), ((1, 1), 1)])
        results += [docket.undo()]
        self.assertEqual(list(docket), [((1, 0), 1), ((0, 1), 0), ((1, 1), 1)])
        results += [docket.redo(), docket.redo()]
        self.assertEqual(list(docket), [((0, 1), 0), ((1, 1), 0)])
        self.assertEqual(results, [None] * 9)
        self.assertEqual(docket.deeds, (
            ("decide", (1, 0), 1), ("decide", (0, 1), 0), ("decide", (1, 1), 1), ("strike", 0), ("regrade", 1, 0),
            ("undo",), ("undo",), ("redo",), ("redo",)))

    def test_keywords(self):
        docket = Docket(AB)
        docket.decide(case=(1, 0), grade=1)
        docket.regrade(number=0, grade=0)
        docket.strike(number=0)
        docket.attempt(deeds=[UNDO])
        self.assertEqual(list(docket), [((1, 0), 0)])

    def test_regrade_by_item(self):
        docket = Docket(AB, 2)
        docket.decide((1, 0), 1)
        docket[0] = 2
        self.assertEqual((list(docket), docket.deeds[-1]), ([((1, 0), 2)], ("regrade", 0, 2)))
        docket.undo()
        self.assertEqual(list(docket), [((1, 0), 1)])
        before = state(docket)
        for number, grade, error in [(0, 3, NoGrade), (0, -1, NoGrade), (1, 3, NoGrade), (1, 0, NoRow), (-1, 2, NoRow),
                                     (HUGE, 0, NoRow)]:
            with self.assertRaises(error):
                docket[number] = grade
        self.assertEqual(state(docket), before)

    def test_the_same_grade(self):
        docket = Docket(AB)
        docket.decide((1, 0), 1)
        docket.regrade(0, 1)
        docket.regrade(0, 1)
        docket.undo()
        self.assertEqual((list(docket), len(docket.deeds), depth(docket)), ([((1, 0), 1)], 4, [2, 1]))

    def test_a_new_deed_empties_the_second_stack(self):
        for deed in (("decide", (1, 1), 1), ("strike", 0), ("regrade", 0, 1)):
            docket = Docket(AB)
            docket.attempt([WON, WON, WON, UNDO, UNDO])
            self.assertEqual(depth(docket), [1, 2])
            do(docket, deed)
            self.refused(docket, REDO, NothingToRedo)
            self.assertEqual(depth(docket), [2, 0])

    def test_a_redo_keeps_the_rest(self):
        docket = Docket(AB)
        docket.attempt([WON, LOST, ("strike", 0), UNDO, UNDO, UNDO, REDO])
        self.assertEqual((list(docket), depth(docket)), ([((0, 0), 1)], [1, 2]))
        docket.attempt([REDO, REDO])
        self.assertEqual((list(docket), depth(docket)), ([((1, 1), 0)], [3, 0]))

    def test_down_to_the_empty_stacks(self):
        for forum, seed in product(FORUMS[:6], range(4)):
            docket, seen = Docket(forum, 2), [()]
            for deed in sample_deeds(forum, 2, 30, seed, wrong=False):
                try:
                    if len(deed) > 1:
                        do(docket, deed)
                        seen.append(tuple(docket))
                except CourtError:
                    pass
            for rows in seen[-2::-1]:
                docket.undo()
                self.assertEqual(tuple(docket), rows)
            self.refused(docket, UNDO, NothingToUndo)
            for rows in seen[1:]:
                docket.redo()
                self.assertEqual(tuple(docket), rows)
            self.refused(docket, REDO, NothingToRedo)
            self.assertEqual(len(docket.deeds), 3 * (len(seen) - 1))
            self.assertEqual(docket.deeds[-1:], (REDO,) if len(seen) > 1 else ())

    def test_ten_rows(self):
        docket = Docket(AB, 2)
        for number in range(10):
            docket.decide(all_cases(AB)[number % 4], number % 3)
        for deed, error in [
            (("decide", (1, 1), 1), TooLarge), (("decide", (1, 1), 3), NoGrade), (("decide", (2, 1), 1), NoCase),
            (("decide", (2, 1), 3), NoCase), (("strike", 10), NoRow), (("regrade", 10, 1), NoRow),
        ]:
            self.refused(docket, deed, error)
        docket.strike(9)
        docket.decide((1, 1), 2)
        self.assertEqual((len(list(docket)), docket[9]), (10, ((1, 1), 2)))
        docket.attempt([UNDO, UNDO])
        self.assertEqual(docket[9], ((0, 1), 0))
        self.refused(docket, ("decide", (1, 1), 1), TooLarge)

    def test_refused_deeds(self):
        for deeds in ([], [WON], [WON, LOST, UNDO]):
            docket = Docket(AB)
            docket.attempt(deeds)
            for wrong in NO_CASES:
                for grade in (0, 1) + NO_GRADES:
                    self.refused(docket, ("decide", wrong, grade), NoCase)
            count = len(list(docket))
            for grade in NO_GRADES:
                self.refused(docket, ("decide", (1, 0), grade), NoGrade)
                for number in (-1, 0, count, HUGE):
                    self.refused(docket, ("regrade", number, grade), NoGrade)
            for number in (-1, count, count + 1, HUGE, -HUGE):
                self.refused(docket, ("strike", number), NoRow)
                for grade in (0, 1):
                    self.refused(docket, ("regrade", number, grade), NoRow)

    def test_grades_of_other_tops(self):
        for top in (1, 2, 3, 4):
            docket = Docket(AB, top)
            for grade in range(top + 1):
                docket.decide((1, 0), grade)
                docket.regrade(0, top - grade)
            self.refused(docket, ("decide", (1, 0), top + 1), NoGrade)
            self.refused(docket, ("regrade", 0, top + 1), NoGrade)

    def test_all_short_runs(self):
        """Every run of at most five deeds of seven kinds, and some runs of six, against the words of the points."""
        kinds = [("decide", (1,), 0), ("decide", (0,), 1), ("strike", 0), ("strike", 1), ("regrade", 0, 1), UNDO, REDO]
        runs = [deeds for count in range(6) for deeds in product(kinds, repeat=count)]
        source = random.Random(6)
        runs += [source.choices(kinds, k=6) for _ in range(4000)]
        for deeds in runs:
            self.run_both(Forum("a"), 1, deeds)

    def test_long_runs(self):
        for forum in FORUMS:
            for top in (1, 2, 4):
                for seed in range(4):
                    self.run_both(forum, top, list(sample_deeds(forum, top, 80, seed)))

    def run_both(self, forum, top, deeds):
        """Does the deeds on a docket and on a model, and compares them after each deed."""
        docket, model = Docket(forum, top), Model(forum, top)
        for deed in deeds:
            error = model.error(deed)
            try:
                do(docket, deed)
                self.assertIsNone(error)
                model.do(deed)
            except CourtError as raised:
                self.assertIs(type(raised), error)
            self.assertEqual((list(docket), list(docket.deeds)), (model.rows, model.deeds))
        self.assertEqual(depth(docket), [len(model.first), len(model.second)])


class TrialTest(DocketTest):
    """Point 93."""

    def setUp(self):
        self.docket = Docket(AB)
        self.docket.attempt([WON, LOST, ("regrade", 0, 0), UNDO])
        self.before, self.depths = state(self.docket), depth(self.docket)

    def is_as_before(self):
        self.assertEqual((state(self.docket), depth(self.docket)), (self.before, self.depths))

    def test_a_trial_that_ends_well(self):
        with self.docket.trial():
            self.docket.strike(0)
            self.docket.decide((1, 0), 1)
        self.assertEqual(list(self.docket), [((1, 1), 0), ((1, 0), 1)])
        self.assertEqual((self.docket.deeds, depth(self.docket)),
                         (self.before[1] + (("strike", 0), ("decide", (1, 0), 1)), [4, 0]))

    def test_a_trial_that_ends_with_an_exception(self):
        class Odd(Exception):
            pass
        for error in (NoCase, CourtError, Odd, KeyError, ZeroDivisionError, KeyboardInterrupt, AtOdds):
            raised = error(1, 2)
            with self.assertRaises(error) as caught:
                with self.docket.trial():
                    self.docket.strike(0)
                    self.docket.undo()
                    self.docket.undo()
                    raise raised
            self.assertIs(caught.exception, raised)
            self.is_as_before()

    def test_refused_deeds(self):
        for wrong, error in [(("strike", 2), NoRow), (("decide", (1,), 1), NoCase), (("decide", (1, 1), 2), NoGrade)]:
            for deeds in ([], [UNDO], [WON, REDO], [REDO, UNDO, UNDO], [("strike", 0), LOST]):
                with self.assertRaises((error, NothingToRedo)):
                    with self.docket.trial():
                        for deed in deeds + [wrong]:
                            do(self.docket, deed)
                self.is_as_before()

    def test_an_exception_that_is_caught_inside(self):
        with self.docket.trial():
            self.docket.strike(0)
            with self.assertRaises(NoRow):
                self.docket.strike(1)
        self.assertEqual(list(self.docket), [((1, 1), 0)])

    def test_the_call_itself_changes_nothing(self):
        trial = self.docket.trial()
        self.is_as_before()
        self.docket.strike(0)
        rows = list(self.docket)
        with self.assertRaises(NoRow):
            with trial:
                self.docket.strike(0)
                self.docket.strike(0)
        self.assertEqual((list(self.docket), len(self.docket.deeds)), (rows, 5))

    def test_leaving_a_trial_early(self):
        def leave():
            with self.docket.trial():
                self.docket.strike(0)
                return list(self.docket)
        self.assertEqual(leave(), [((1, 1), 0)])
        self.assertEqual(list(self.docket), [((1, 1), 0)])

    def nested(self, inner_fails, outer_fails):
        """The rows after two trials, one in the other, of which some fail."""
        docket = Docket(AB)
        docket.decide((0, 0), 0)
        try:
            with docket.trial():
                docket.decide((0, 1), 0)
                try:
                    with docket.trial():
                        docket.decide((1, 0), 0)
                        docket.undo()
                        docket.decide((1, 1), 1)
                        if inner_fails:
                            docket.strike(9)
                except NoRow:
                    self.assertEqual((list(docket), depth(docket)), ([((0, 0), 0), ((0, 1), 0)], [2, 0]))
                if outer_fails:
                    raise KeyError
                docket.strike(0)
        except KeyError:
            pass
        return list(docket), len(docket.deeds), depth(docket)

    def test_nested_trials(self):
        self.assertEqual(self.nested(False, False), ([((0, 1), 0), ((1, 1), 1)], 6, [4, 0]))
        self.assertEqual(self.nested(True, False), ([((0, 1), 0)], 3, [3, 0]))
        self.assertEqual(self.nested(False, True), ([((0, 0), 0)], 1, [1, 0]))
        self.assertEqual(self.nested(True, True), ([((0, 0), 0)], 1, [1, 0]))

    def test_one_exception_for_both(self):
        with self.assertRaises(NoRow):
            with self.docket.trial():
                self.docket.undo()
                with self.docket.trial():
                    self.docket.undo()
                    self.docket.strike(0)
        self.is_as_before()

    def test_attempt(self):
        self.assertIsNone(self.docket.attempt([]))
        self.is_as_before()
        deeds = [("strike", 1), ("regrade", 0, 0), UNDO, REDO, ("decide", (1, 0), 1)]
        self.assertIsNone(self.docket.attempt(deeds))
        self.assertEqual(list(self.docket), [((0, 0), 0), ((1, 0), 1)])
        self.assertEqual(self.docket.deeds, self.before[1] + tuple(deeds))
        self.docket.attempt(tuple([UNDO] * 3))
        self.assertEqual(list(self.docket), [((0, 0), 1), ((1, 1), 0)])

    def test_attempts_that_are_refused(self):
        good = [("strike", 1), ("regrade", 0, 0), UNDO, REDO, ("decide", (1, 0), 1)]
        bad = [(("strike", 5), NoRow), (("regrade", 5, 2), NoGrade), (("decide", (5, 0), 5), NoCase)]
        places = [(at, deed, error) for at in range(6) for deed, error in bad]
        # Ahead of the first deed and behind the undo something can be done again.
        places += [(at, REDO, NothingToRedo) for at in (1, 2, 4, 5)]
        for at, deed, error in places:
            for later in [good[at:], [later for later, _ in bad]]:
                deeds = good[:at] + [deed] + later
                copy = list(deeds)
                with self.assertRaises(error):
                    self.docket.attempt(deeds)
                self.is_as_before()
                self.assertEqual(deeds, copy)
        with self.assertRaises(NothingToUndo):
            self.docket.attempt([UNDO, UNDO, UNDO, ("decide", (), 7)])
        self.is_as_before()

    def test_attempt_in_a_trial(self):
        with self.docket.trial():
            self.docket.strike(0)
            with self.assertRaises(NoRow):
                self.docket.attempt([LOST, ("strike", 7)])
            self.assertEqual(list(self.docket), [((1, 1), 0)])
        self.assertEqual(self.docket.deeds[-1], ("strike", 0))

    def test_own_deeds_again(self):
        self.docket.attempt(self.docket.deeds)
        self.assertEqual(len(self.docket.deeds), 8)
        self.assertEqual(list(self.docket), [((0, 0), 1), ((1, 1), 0), ((0, 0), 1), ((1, 1), 0)])
