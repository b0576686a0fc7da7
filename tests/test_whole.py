"""What points 2 and 3 promise, over the whole program: for each function, class and method of the interface."""

import inspect
import unittest
from importlib import import_module

from settledcases import askdesk, asks, balance, book, bookdesk, booklines, chains, changes, climbing, closing
from settledcases import courtdesk, courthouse, courts, desk, docket, duel, evening, exchange, falldesk, falls, forum
from settledcases import issuedesk, issues, journal, judges, kinds, ladder, ladderdesk, learner, leastbook, neighbors
from settledcases import order, overruling, panels, paperlines, papers, picks, rising, rules, settling, sidebooks
from settledcases import standing, suits, teaching, telling, thresholds, trees, turns, web, widest
from tests.test_general import INTERFACE, METHODS

AB = forum.Forum("ab")
A, B = forum.Forum("a"), forum.Forum("b")
LOW, LEFT, RIGHT, HIGH = (0, 0), (1, 0), (0, 1), (1, 1)


def quiet():
    return book.Book(AB, 1, [(LEFT, 1), (LOW, 0)])


def loud():
    return book.Book(AB, 1, [(LEFT, 1), (HIGH, 0), (RIGHT, 1)])


def awards():
    return book.Book(AB, 3, [(LEFT, 3), (HIGH, 1), (LOW, 0)])


def ranked():
    return kinds.RankedJudge(AB, [(0, 1)], 0)


def weighing():
    return kinds.WeighingJudge(AB, [1, 2], 2)


def ruled():
    return rules.Rules(AB, [(LEFT, LOW, 1), (RIGHT, RIGHT, 0)])


def suit():
    return suits.Suit([A, B])


def rulings():
    return suits.Rulings(suit(), [(((1,), (1,)), "all", 0), (((1,), None), "all", 1)])


def panel():
    return panels.Panel(suit(), [kinds.SingleJudge(A, 0), judges.Judge(B)])


def house():
    return courts.Courts(AB, [-1, 0], [1, 0])


def diary():
    return courts.Diary(house(), [("decide", 1, LEFT, 1), ("close", 1), ("decide", 0, HIGH, 0)])


def files():
    found = docket.Docket(AB)
    found.attempt([("decide", LEFT, 1), ("decide", HIGH, 0), ("undo",)])
    return found


TREE = ("split", 0, ((0, ("quarrel", 0, 0, 0)), (1, ("quarrel", 1, 0, 1))))

# A name of the interface, and functions that make its arguments anew. A method stands behind its class.
CALLS = [
    ("forum.Forum", lambda: ["a", "m", [2, 1]]),
    ("order.at_least", lambda: [LEFT, LOW]), ("order.join_of", lambda: [LEFT, RIGHT]),
    ("order.meet_of", lambda: [LEFT, RIGHT]),
    ("order.weakest", lambda: [[HIGH, LEFT, LEFT, RIGHT]]), ("order.strongest", lambda: [[LEFT, LOW, RIGHT, LEFT]]),
    ("order.between", lambda: [AB, LOW, LEFT]),
    ("book.Book", lambda: [AB, 2, [(LEFT, 1), (LOW, 2)]]), ("book.quarrels", lambda: [loud()]),
    ("book.bounds", lambda: [loud(), LEFT]),
    ("book.settled", lambda: [quiet(), HIGH]),
    ("judges.Judge", lambda: [AB, 2]), ("judges.FloorJudge", lambda: [AB, 1, [(LEFT, 1)]]),
    ("judges.CeilingJudge", lambda: [AB, 1, [(LEFT, 0)]]),
    ("neighbors.stronger_by_one", lambda: [AB, LOW]), ("neighbors.weaker_by_one", lambda: [AB, HIGH]),
    ("neighbors.shortest_chain", lambda: [AB, LOW, HIGH]),
    ("exchange.exchanged_forum", lambda: [AB]), ("exchange.exchanged_case", lambda: [AB, LEFT]),
    ("exchange.exchanged_book", lambda: [loud()]),
    ("exchange.ExchangedJudge", lambda: [ranked()]), ("exchange.renamed_forum", lambda: [AB, "xy"]),
    ("booklines.book_text", lambda: [loud()]), ("booklines.read_book", lambda: ["ab// 1\na// 1"]),
    ("booklines.case_words", lambda: [AB, [LEFT, LOW]]), ("booklines.read_words", lambda: [AB, "a// //"]),
    ("settling.least_judge", lambda: [quiet()]), ("settling.greatest_judge", lambda: [quiet()]),
    ("settling.reasons", lambda: [loud(), LEFT]),
    ("settling.settled_table", lambda: [quiet()]), ("settling.unsettled", lambda: [quiet()]),
    ("rising.is_rising", lambda: [AB, [0, 1, 0, 1]]), ("rising.TableJudge", lambda: [AB, 1, [0, 0, 1, 1]]),
    ("rising.rising_tables", lambda: [quiet()]),
    ("leastbook.least_book", lambda: [quiet()]), ("leastbook.spare_rows", lambda: [quiet()]),
    ("leastbook.settles_same", lambda: [quiet(), quiet()]),
    ("sidebooks.common", lambda: [quiet(), quiet()]), ("sidebooks.dividing", lambda: [quiet(), quiet()]),
    ("web.least_cover", lambda: [[1, 2], [2, 1], [(0, 1), (0, 0), (1, 1), (0, 1)]]),
    ("web.most_apart", lambda: [[1, 2], [2, 1], [(0, 1), (0, 0), (1, 1), (0, 1)]]),
    ("overruling.best_grades", lambda: [loud(), [2, 1, 1]]), ("overruling.overruled", lambda: [loud(), [2, 1, 1]]),
    ("overruling.least_price", lambda: [loud(), [2, 1, 1]]), ("overruling.apart", lambda: [loud(), [2, 1, 1]]),
    ("overruling.regraded", lambda: [loud(), [1, 1, 0]]),
    ("falls.falls", lambda: [loud(), [2, 1, 1]]), ("falls.overrulings", lambda: [loud(), [1, 2, 1]]),
    ("falls.safe_book", lambda: [loud(), [2, 1, 1]]),
    ("changes.least_changes", lambda: [awards(), [2, 1, 1]]),
    ("changes.changes_price", lambda: [awards(), [0, 1, 2], [2, 1, 1]]),
    ("thresholds.threshold_books", lambda: [awards()]), ("thresholds.stacked", lambda: [[quiet(), quiet()]]),
    ("thresholds.award_papers", lambda: [awards(), [2, 1, 1]]),
    ("evening.greatest_fall", lambda: [awards()]), ("evening.even_changes", lambda: [awards()]),
    ("evening.greatest_change", lambda: [awards(), [0, 1, 2]]),
    ("rules.narrowed", lambda: [(LEFT, LOW, 1), RIGHT]),
    ("rules.Rules", lambda: [AB, [(LEFT, LOW, 1), (RIGHT, HIGH, 0)]]),
    ("widest.widest_rules", lambda: [ruled(), HIGH, 1]), ("widest.free_cases", lambda: [ruled()]),
    ("kinds.SingleJudge", lambda: [AB, 1]), ("kinds.RankedJudge", lambda: [AB, [(0, 1), (1, 0)], 1]),
    ("kinds.WeighingJudge", lambda: [AB, [1, 2], 2]),
    ("papers.Paper", lambda: []), ("papers.Quarrel", lambda: [0, 1]), ("papers.Balance", lambda: [[(0, 1), (1, 1)]]),
    ("papers.ClosedSet", lambda: [[0, 1]]), ("papers.FailedSteps", lambda: [[1, 0]]),
    ("closing.closing", lambda: [loud()]), ("closing.ranked_keeper", lambda: [loud()]),
    ("closing.greatest_closed_set", lambda: [loud()]),
    ("closing.single_keeper", lambda: [loud()]), ("balance.weighing_keeper", lambda: [loud()]),
    ("ladder.rising_keeper", lambda: [loud()]),
    ("ladder.keeper", lambda: ["ranked", quiet()]), ("ladder.verdict", lambda: ["ranked", quiet(), RIGHT]),
    ("climbing.climb", lambda: [ranked()]), ("climbing.descend", lambda: [papers.ClosedSet([0, 1]), loud()]),
    ("climbing.rung_of", lambda: [weighing()]),
    ("suits.Suit", lambda: [[A, B]]), ("suits.Rulings", lambda: [suit(), [(((1,), None), "any", 0)]]),
    ("panels.Panel", lambda: [suit(), [judges.Judge(A), judges.Judge(B)]]),
    ("picks.known_parts", lambda: [rulings(), (1, None)]), ("picks.all_picks", lambda: [rulings()]),
    ("picks.first_picks", lambda: [rulings()]),
    ("picks.panel_of", lambda: [rulings(), (1, None)]),
    ("trees.panel_or_tree", lambda: [rulings().added((None, (1,)), "any", 1)]),
    ("trees.tree_holds", lambda: [rulings(), TREE]), ("trees.leaves", lambda: [TREE]),
    ("issues.ruling_status", lambda: [rulings(), (None, (1,)), "all"]), ("issues.forced_picks", lambda: [rulings()]),
    ("issues.one_mode", lambda: [rulings()]),
    ("courts.Courts", lambda: [AB, [-1, 0], [1, 0]]),
    ("courts.Diary", lambda: [house(), [("decide", 1, LEFT, 1), ("close", 0)]]),
    ("standing.beats", lambda: [diary(), 2, 0]), ("standing.standing", lambda: [diary()]),
    ("standing.beater", lambda: [diary(), 0]),
    ("standing.binding", lambda: [diary(), 1]),
    ("telling.first_unclosed", lambda: [diary(), 1]), ("telling.final_book", lambda: [diary(), 1]),
    ("telling.told", lambda: [diary(), 1, LEFT]),
    ("telling.lowest_court", lambda: [diary(), 1, LEFT, 1]),
    ("turns.turns", lambda: [diary()]), ("turns.history", lambda: [diary(), 1, LEFT]),
    ("asks.fewest_asks", lambda: [quiet()]), ("asks.best_ask", lambda: [quiet()]),
    ("asks.hard_answer", lambda: [quiet(), RIGHT]),
    ("learner.Learner", lambda: [quiet()]), ("learner.asked", lambda: [quiet(), ranked()]),
    ("teaching.teaching", lambda: [quiet(), ranked()]), ("teaching.turned_judge", lambda: [ranked(), RIGHT]),
    ("chains.fewest_chains", lambda: [book.Book(AB)]), ("chains.widest", lambda: [book.Book(AB)]),
    ("duel.duel_value", lambda: [quiet(), 1]), ("duel.duel_move", lambda: [quiet(), 0]),
    ("docket.Docket", lambda: [AB, 2]), ("journal.journal", lambda: [files()]),
    ("journal.replayed", lambda: ["ab// 1\ndecide a// 1\nundo"]),
    ("desk.read_number", lambda: ["17"]), ("desk.Desk", lambda: []), ("bookdesk.BookDesk", lambda: [files()]),
    ("falldesk.FallDesk", lambda: [files()]),
    ("paperlines.read_paper", lambda: ["closed 0 1"]), ("ladderdesk.LadderDesk", lambda: [files()]),
    ("askdesk.AskDesk", lambda: [files()]),
    ("courthouse.Courthouse", lambda: [files()]), ("issuedesk.IssueDesk", lambda: [suit()]),
    ("courtdesk.CourtDesk", lambda: [house()]),
]
METHOD_CALLS = [
    ("forum.Forum.number", lambda: [AB, LEFT]), ("forum.Forum.reaches", lambda: [AB, LEFT, 0]),
    ("forum.Forum.word", lambda: [AB, LEFT]),
    ("forum.Forum.read_case", lambda: [AB, "a//"]), ("forum.Forum.__iter__", lambda: [AB]),
    ("forum.Forum.__contains__", lambda: [AB, LEFT]),
    ("book.Book.added", lambda: [quiet(), HIGH, 1]), ("book.Book.at", lambda: [awards(), 2]),
    ("book.Book.__or__", lambda: [quiet(), loud()]),
    ("book.Book.__sub__", lambda: [loud(), [2, 0, 2]]), ("book.Book.__iter__", lambda: [quiet()]),
    ("book.Book.__contains__", lambda: [quiet(), (LEFT, 1)]),
    ("judges.Judge.grade_of", lambda: [judges.Judge(AB), LEFT]), ("judges.Judge.table", lambda: [ranked()]),
    ("judges.Judge.__call__", lambda: [ranked(), LEFT]),
    ("judges.Judge.first_break", lambda: [ranked(), loud()]), ("judges.Judge.keeps", lambda: [ranked(), loud()]),
    ("judges.Judge.parting", lambda: [ranked(), weighing()]),
    ("judges.FloorJudge.grade_of", lambda: [judges.FloorJudge(AB, 1, [(LEFT, 1)]), LEFT]),
    ("judges.CeilingJudge.grade_of", lambda: [judges.CeilingJudge(AB, 1, [(LEFT, 0)]), LEFT]),
    ("exchange.ExchangedJudge.grade_of", lambda: [exchange.ExchangedJudge(ranked()), (1, 0)]),
    ("rising.TableJudge.grade_of", lambda: [rising.TableJudge(AB, 1, [0, 0, 1, 1]), LEFT]),
    ("rules.Rules.case_book", lambda: [ruled()]), ("rules.Rules.rule_book", lambda: [ruled()]),
    ("rules.Rules.told_book", lambda: [ruled()]),
    ("rules.Rules.speaking", lambda: [ruled(), HIGH]),
    ("kinds.SingleJudge.grade_of", lambda: [kinds.SingleJudge(AB, 0), LEFT]),
    ("kinds.RankedJudge.grade_of", lambda: [ranked(), LEFT]),
    ("kinds.RankedJudge.ground_for", lambda: [ranked(), LEFT]),
    ("kinds.WeighingJudge.grade_of", lambda: [weighing(), LEFT]),
    ("kinds.WeighingJudge.weight_of", lambda: [weighing(), HIGH]),
    ("papers.Paper.holds", lambda: [papers.Paper(), loud()]), ("papers.Paper.row_numbers", lambda: [papers.Paper()]),
    ("papers.Quarrel.holds", lambda: [papers.Quarrel(0, 1), loud()]),
    ("papers.Quarrel.row_numbers", lambda: [papers.Quarrel(1, 0)]),
    ("papers.Balance.holds", lambda: [papers.Balance([(0, 1), (1, 1)]), loud()]),
    ("papers.Balance.row_numbers", lambda: [papers.Balance([(1, 1), (0, 1)])]),
    ("papers.ClosedSet.holds", lambda: [papers.ClosedSet([0, 1]), loud()]),
    ("papers.ClosedSet.row_numbers", lambda: [papers.ClosedSet([1, 0])]),
    ("papers.FailedSteps.holds", lambda: [papers.FailedSteps([1, 0]), loud()]),
    ("papers.FailedSteps.row_numbers", lambda: [papers.FailedSteps([1, 0])]),
    ("suits.Suit.joined_forum", lambda: [suit()]), ("suits.Suit.joined_case", lambda: [suit(), ((1,), (0,))]),
    ("suits.Suit.__contains__", lambda: [suit(), ((1,), None)]),
    ("suits.Rulings.added", lambda: [rulings(), (None, (1,)), "any", 0]),
    ("suits.Rulings.choice_rows", lambda: [rulings()]), ("suits.Rulings.__iter__", lambda: [rulings()]),
    ("panels.Panel.__call__", lambda: [panel(), ((1,), None), "all"]),
    ("panels.Panel.first_break", lambda: [panel(), rulings()]),
    ("panels.Panel.keeps", lambda: [panel(), rulings()]),
    ("courts.Courts.line_of", lambda: [house(), 1]), ("courts.Diary.decided", lambda: [diary(), 0, LEFT, 1]),
    ("courts.Diary.closed", lambda: [diary(), 0]),
    ("courts.Diary.closed_courts", lambda: [diary()]), ("courts.Diary.__iter__", lambda: [diary()]),
    ("learner.Learner.next_ask", lambda: [learner.Learner(quiet())]),
    ("learner.Learner.judge", lambda: [learner.Learner(quiet())]),
    ("docket.Docket.bounds_at", lambda: [files(), LEFT]), ("docket.Docket.trial", lambda: [files()]),
    ("docket.Docket.__iter__", lambda: [files()]),
    ("docket.Docket.__getitem__", lambda: [files(), 0]), ("docket.Docket.__contains__", lambda: [files(), (LEFT, 1)]),
]
# Methods that change their own object, but no other argument.
CHANGING_CALLS = [
    ("rules.Rules.decide", lambda: [ruled(), HIGH, HIGH, 1]),
    ("learner.Learner.answer", lambda: [learner.Learner(quiet()), 1]),
    ("docket.Docket.decide", lambda: [files(), LOW, 0]), ("docket.Docket.strike", lambda: [files(), 0]),
    ("docket.Docket.regrade", lambda: [files(), 0, 0]),
    ("docket.Docket.__setitem__", lambda: [files(), 0, 0]), ("docket.Docket.undo", lambda: [files()]),
    ("docket.Docket.redo", lambda: [files()]),
    ("docket.Docket.attempt", lambda: [files(), [("strike", 0), ("undo",)]]),
    ("desk.Desk.run", lambda: [desk.Desk(), "a\nb"]),
    ("bookdesk.BookDesk.reply", lambda: [bookdesk.BookDesk(files()), ["strike", "0"]]),
    ("desk.Desk.answer", lambda: [bookdesk.BookDesk(files()), "strike 0"]),
    ("bookdesk.BookDesk.together", lambda: [bookdesk.BookDesk(files()), "strike 0\nundo"]),
    ("falldesk.FallDesk.reply", lambda: [falldesk.FallDesk(files()), ["falls"]]),
    ("ladderdesk.LadderDesk.reply", lambda: [ladderdesk.LadderDesk(files()), ["check", "closed", "0"]]),
    ("askdesk.AskDesk.reply", lambda: [askdesk.AskDesk(files()), ["duel", "1"]]),
    ("courthouse.Courthouse.reply", lambda: [courthouse.Courthouse(files()), ["price"]]),
    ("issuedesk.IssueDesk.reply", lambda: [issuedesk.IssueDesk(suit()), ["rule", "all", "1", "a//", "-"]]),
    ("courtdesk.CourtDesk.reply", lambda: [courtdesk.CourtDesk(house()), ["decide", "0", "a//", "1"]]),
]
# What raises an error for all arguments, or is called off the class.
ELSEWHERE = {"forum.Forum.read", "desk.Desk.reply"}
GENERATED = inspect.isgeneratorfunction


def found_by(name):
    """The function, class or method of this name."""
    module, *rest = name.split(".")
    found = import_module(f"settledcases.{module}")
    for word in rest:
        found = getattr(found, word)
    return found


def result_of(name, args):
    """What the call returns; a generator as a list."""
    function = found_by(name)
    found = function(*args)
    return list(found) if GENERATED(function) or name.endswith("__iter__") else found


def seen_of(found):
    """All of a value that can be compared, however deep, lists and tuples told apart."""
    if isinstance(found, (list, tuple)):
        return [type(found).__name__] + [seen_of(entry) for entry in found]
    if isinstance(found, dict):
        return ["dict"] + [(seen_of(key), seen_of(entry)) for key, entry in found.items()]
    if type(found).__module__.startswith("settledcases"):
        return [type(found).__name__] + [(key, seen_of(entry)) for key, entry in sorted(vars(found).items())]
    assert found is None or isinstance(found, (int, str)), found
    return found


def lists_of(found):
    """The lists in a value that is returned, however deep."""
    if isinstance(found, (list, tuple)):
        inner = [one for entry in found for one in lists_of(entry)]
        return [found] + inner if isinstance(found, list) else inner
    return []


class WholeProgramTest(unittest.TestCase):
    def test_every_name_of_the_interface(self):
        names = {f"{module}.{name}" for module, listed in INTERFACE.items() for name in listed}
        self.assertEqual({name for name, _ in CALLS}, names)
        methods = {f"{module}.{owner}.{name}" for (module, owner), listed in METHODS.items() for name in listed}
        called = {name for name, _ in METHOD_CALLS + CHANGING_CALLS} | ELSEWHERE
        self.assertEqual(methods - called, set())

    def test_arguments_stay_as_they_are(self):
        """Point 3."""
        for name, made in CALLS + METHOD_CALLS:
            args = made()
            before = seen_of(args)
            found = result_of(name, args)
            self.assertEqual(seen_of(args), before, name)
            self.assertEqual(seen_of(result_of(name, args)), seen_of(found), name)
        for name, made in CHANGING_CALLS:
            args = made()
            before = seen_of(args[1:])
            result_of(name, args)
            self.assertEqual(seen_of(args[1:]), before, name)

    def test_tuples_in_place_of_lists(self):
        """Point 2."""
        count = 0
        for name, made in CALLS + METHOD_CALLS:
            args = [tuple(arg) if isinstance(arg, list) else arg for arg in made()]
            count += any(isinstance(arg, list) for arg in made())
            self.assertEqual(seen_of(result_of(name, args)), seen_of(result_of(name, made())), name)
        for name, made in CHANGING_CALLS:
            args, again = [tuple(arg) if isinstance(arg, list) else arg for arg in made()], made()
            self.assertEqual(seen_of(result_of(name, args)), seen_of(result_of(name, again)), name)
            self.assertEqual(seen_of(args[0]), seen_of(again[0]), name)
        self.assertGreater(count, 25)

    def test_later_changes_to_an_argument(self):
        """Point 3."""
        for name, made in CALLS + METHOD_CALLS + CHANGING_CALLS:
            args = made()
            found = result_of(name, args)
            before = seen_of([found] + [arg for arg in args if not isinstance(arg, list)])
            for arg in args:
                if isinstance(arg, list):
                    arg.reverse()
                    arg.append(arg[0])
                    del arg[0]
                    arg.clear()
            self.assertEqual(seen_of([found] + [arg for arg in args if not isinstance(arg, list)]), before, name)

    def test_returned_lists_are_new(self):
        """Point 3."""
        count = 0
        for name, made in CALLS + METHOD_CALLS:
            args = made()
            first, second = result_of(name, args), result_of(name, args)
            all_lists = lists_of(first) + lists_of(second) + lists_of(args)
            self.assertEqual(len({id(one) for one in all_lists}), len(all_lists), name)
            expected, before = seen_of(second), seen_of(args)
            for one in lists_of(first):
                count += 1
                one.append("more")
                one.reverse()
            self.assertEqual((seen_of(second), seen_of(args)), (expected, before), name)
            self.assertEqual(seen_of(result_of(name, args)), expected, name)
        self.assertGreater(count, 25)

    def test_fields_are_no_lists(self):
        """Nothing that a caller reads off an object can be changed from outside."""
        for name, made in CALLS:
            if inspect.isclass(found_by(name)):
                for field, value in vars(result_of(name, made())).items():
                    if not field.startswith("_"):
                        self.assertEqual(lists_of(value), [], f"{name}.{field}")

    def test_objects_change_only_by_their_methods(self):
        """Point 3: what two objects were made of is not shared between them."""
        shared = files()
        one, other = bookdesk.BookDesk(shared), bookdesk.BookDesk(shared)
        one.answer("strike 0")
        self.assertEqual((one.docket is other.docket, other.lines), (True, ()))
        start = quiet()
        first, second = learner.Learner(start), learner.Learner(start)
        first.answer(1)
        self.assertEqual((second.answers, start.rows), ((), quiet().rows))
        rows = [(LEFT, LOW, 1)]
        one, other = rules.Rules(AB, rows), rules.Rules(AB, rows)
        one.decide(RIGHT, RIGHT, 0)
        self.assertEqual((len(other.rows), rows), (1, [(LEFT, LOW, 1)]))
        desk_of = courtdesk.CourtDesk(house())
        before = desk_of.diary
        desk_of.answer("close 0")
        self.assertEqual((before.entries, len(desk_of.diary.entries)), ((), 1))
