"""The general rules (points 2 to 4), and the interface as a whole."""

import inspect
import unittest
from importlib import import_module

from settledcases import askdesk, asks, balance, book, bookdesk, booklines, chains, changes, climbing, closing
from settledcases import courtdesk, courthouse, courts, desk, docket, duel, evening, exchange, falldesk, falls, forum
from settledcases import issuedesk, issues, journal, judges, kinds, ladder, ladderdesk, learner, leastbook, neighbors
from settledcases import order, overruling, panels, paperlines, papers, picks, rising, rules, settling, sidebooks
from settledcases import standing, suits, teaching, telling, thresholds, trees, turns, web, widest
from settledcases.errors import AtOdds, CourtError, NotYesNo, TooLarge

# Each module with its functions and classes and their parameters.
INTERFACE = {
    "forum": {"Forum": 'pro="", con="", tops=()'},
    "order": {
        "at_least": "x, y", "join_of": "x, y", "meet_of": "x, y", "weakest": "cases", "strongest": "cases",
        "between": "forum, low, high",
    },
    "book": {
        "Book": "forum, top=1, rows=()", "quarrels": "book", "bounds": "book, case", "settled": "book, case",
    },
    "judges": {"Judge": "forum, top=1", "FloorJudge": "forum, top, rows", "CeilingJudge": "forum, top, rows"},
    "neighbors": {
        "stronger_by_one": "forum, case", "weaker_by_one": "forum, case", "shortest_chain": "forum, low, high",
    },
    "exchange": {
        "exchanged_forum": "forum", "exchanged_case": "forum, case", "exchanged_book": "book",
        "ExchangedJudge": "judge", "renamed_forum": "forum, letters",
    },
    "booklines": {
        "book_text": "book", "read_book": "text", "case_words": "forum, cases", "read_words": "forum, text",
    },
    "settling": {
        "least_judge": "book", "greatest_judge": "book", "reasons": "book, case", "settled_table": "book",
        "unsettled": "book",
    },
    "rising": {"is_rising": "forum, table", "TableJudge": "forum, top, table", "rising_tables": "book"},
    "leastbook": {"least_book": "book", "spare_rows": "book", "settles_same": "a, b"},
    "sidebooks": {"common": "a, b", "dividing": "a, b"},
    "web": {"least_cover": "left, right, pairs, *, high=False", "most_apart": "left, right, pairs"},
    "overruling": {
        "best_grades": "book, prices=None, *, high=False", "overruled": "book, prices=None, *, high=False",
        "least_price": "book, prices=None", "apart": "book, prices=None", "regraded": "book, grades",
    },
    "falls": {"falls": "book, prices=None", "overrulings": "book, prices=None", "safe_book": "book, prices=None"},
    "changes": {
        "least_changes": "book, prices=None, *, high=False", "changes_price": "book, grades, prices=None",
    },
    "thresholds": {"threshold_books": "book", "stacked": "books", "award_papers": "book, prices=None"},
    "evening": {"greatest_fall": "book", "even_changes": "book", "greatest_change": "book, grades"},
    "rules": {"narrowed": "row, case", "Rules": "forum, rows=()"},
    "widest": {"widest_rules": "rules, case, grade", "free_cases": "rules"},
    "kinds": {
        "SingleJudge": "forum, step", "RankedJudge": "forum, grounds, default", "WeighingJudge": "forum, weights, bar",
    },
    "papers": {
        "Paper": "", "Quarrel": "low, high", "Balance": "counts", "ClosedSet": "rows", "FailedSteps": "rows",
    },
    "closing": {"closing": "book", "ranked_keeper": "book", "greatest_closed_set": "book", "single_keeper": "book"},
    "balance": {"weighing_keeper": "book"},
    "ladder": {"rising_keeper": "book", "keeper": "kind, book", "verdict": "kind, book, case"},
    "climbing": {"climb": "judge", "descend": "paper, book", "rung_of": "judge"},
    "suits": {"Suit": "forums", "Rulings": "suit, rows=()"},
    "panels": {"Panel": "suit, judges"},
    "picks": {
        "known_parts": "rulings, picks", "all_picks": "rulings", "first_picks": "rulings", "panel_of": "rulings, picks",
    },
    "trees": {"panel_or_tree": "rulings", "tree_holds": "rulings, tree", "leaves": "tree"},
    "issues": {"ruling_status": "rulings, parts, mode", "forced_picks": "rulings", "one_mode": "rulings"},
    "courts": {"Courts": "forum, parents, firm", "Diary": "courts, entries=()"},
    "standing": {"beats": "diary, a, b", "standing": "diary", "beater": "diary, day", "binding": "diary, court"},
    "telling": {
        "first_unclosed": "diary, court", "final_book": "diary, court", "told": "diary, court, case",
        "lowest_court": "diary, court, case, grade",
    },
    "turns": {"turns": "diary", "history": "diary, court, case"},
    "asks": {"fewest_asks": "book", "best_ask": "book", "hard_answer": "book, case"},
    "learner": {"Learner": "book", "asked": "book, judge"},
    "teaching": {"teaching": "book, judge", "turned_judge": "judge, case"},
    "chains": {"fewest_chains": "book", "widest": "book"},
    "duel": {"duel_value": "book, side", "duel_move": "book, side"},
    "docket": {"Docket": "forum, top=1"},
    "journal": {"journal": "docket", "replayed": "text"},
    "desk": {"read_number": "word", "Desk": ""},
    "bookdesk": {"BookDesk": "docket"},
    "falldesk": {"FallDesk": "docket"},
    "paperlines": {"read_paper": "text"},
    "ladderdesk": {"LadderDesk": "docket"},
    "askdesk": {"AskDesk": "docket"},
    "courthouse": {"Courthouse": "docket"},
    "issuedesk": {"IssueDesk": "suit"},
    "courtdesk": {"CourtDesk": "courts"},
}

METHODS = {
    ("forum", "Forum"): {
        "number": "case", "reaches": "case, step", "word": "case", "read_case": "text", "read": "text",
    },
    ("book", "Book"): {"added": "case, grade", "at": "threshold"},
    ("judges", "Judge"): {
        "grade_of": "case", "table": "", "first_break": "book", "keeps": "book", "parting": "other",
    },
    ("judges", "FloorJudge"): {"grade_of": "case"},
    ("judges", "CeilingJudge"): {"grade_of": "case"},
    ("exchange", "ExchangedJudge"): {"grade_of": "case"},
    ("rising", "TableJudge"): {"grade_of": "case"},
    ("rules", "Rules"): {
        "decide": "case, rule, grade", "case_book": "", "rule_book": "", "told_book": "", "speaking": "case",
    },
    ("kinds", "SingleJudge"): {"grade_of": "case"},
    ("kinds", "RankedJudge"): {"grade_of": "case", "ground_for": "case"},
    ("kinds", "WeighingJudge"): {"grade_of": "case", "weight_of": "case"},
    ("papers", "Paper"): {"holds": "book", "row_numbers": ""},
    ("papers", "Quarrel"): {"holds": "book", "row_numbers": ""},
    ("papers", "Balance"): {"holds": "book", "row_numbers": ""},
    ("papers", "ClosedSet"): {"holds": "book", "row_numbers": ""},
    ("papers", "FailedSteps"): {"holds": "book", "row_numbers": ""},
    ("suits", "Suit"): {"joined_forum": "", "joined_case": "parts"},
    ("suits", "Rulings"): {"added": "parts, mode, grade", "choice_rows": ""},
    ("panels", "Panel"): {"__call__": "parts, mode", "first_break": "rulings", "keeps": "rulings"},
    ("courts", "Courts"): {"line_of": "court"},
    ("courts", "Diary"): {"decided": "court, case, grade", "closed": "court", "closed_courts": ""},
    ("learner", "Learner"): {"next_ask": "", "answer": "grade", "judge": ""},
    ("docket", "Docket"): {
        "bounds_at": "case", "decide": "case, grade", "strike": "number", "regrade": "number, grade", "undo": "",
        "redo": "",
        "trial": "", "attempt": "deeds",
    },
    ("desk", "Desk"): {"reply": "words", "answer": "line", "run": "text"},
    ("bookdesk", "BookDesk"): {"reply": "words", "together": "text"},
    ("falldesk", "FallDesk"): {"reply": "words"},
    ("ladderdesk", "LadderDesk"): {"reply": "words"},
    ("askdesk", "AskDesk"): {"reply": "words"},
    ("courthouse", "Courthouse"): {"reply": "words"},
    ("issuedesk", "IssueDesk"): {"reply": "words"},
    ("courtdesk", "CourtDesk"): {"reply": "words"},
}

PROPERTIES = {
    ("forum", "Forum"): ("text", "size", "weakest_case", "strongest_case"),
    ("papers", "Paper"): ("text",),
    ("papers", "Quarrel"): ("text",),
    ("papers", "Balance"): ("text",),
    ("papers", "ClosedSet"): ("text",),
    ("papers", "FailedSteps"): ("text",),
    ("learner", "Learner"): ("remaining",),
    ("docket", "Docket"): ("now", "odds"),
}
GENERATORS = {"unsettled", "rising_tables", "dividing", "overrulings", "free_cases", "all_picks", "turns", "asked"}

AB = forum.Forum("ab")
BOOK = book.Book(AB, 1, [((1, 0), 1), ((0, 0), 0)])
QUARREL = book.Book(AB, 1, [((1, 0), 1), ((1, 1), 0)])
AWARDS = book.Book(AB, 3, [((1, 0), 3), ((1, 1), 1)])


def parameters(function):
    """The parameters of a function or class as they are written."""
    return str(inspect.signature(function)).replace("'", '"')


class InterfaceTest(unittest.TestCase):
    def test_functions_and_classes(self):
        for name, listed in INTERFACE.items():
            module = import_module(f"settledcases.{name}")
            for function, expected in listed.items():
                found = getattr(module, function)
                self.assertEqual(found.__module__, module.__name__)
                self.assertEqual(parameters(found), f"({expected})")
                self.assertEqual(inspect.isgeneratorfunction(found), function in GENERATORS)

    def test_methods(self):
        for (name, owner), listed in METHODS.items():
            own = vars(getattr(import_module(f"settledcases.{name}"), owner))
            for method, expected in listed.items():
                found = own[method]
                first = "cls" if isinstance(found, classmethod) else "self"
                self.assertEqual(first == "cls", method == "read")
                found = getattr(found, "__func__", found)
                self.assertEqual(parameters(found), f"({', '.join([first, expected] if expected else [first])})")

    def test_properties(self):
        for (name, owner), listed in PROPERTIES.items():
            own = vars(getattr(import_module(f"settledcases.{name}"), owner))
            for word in listed:
                self.assertIsInstance(own[word], property)


def results():
    """What the functions and methods return for some arguments."""
    judge = judges.FloorJudge(AB, 1, BOOK.rows)
    yield from (AB.size, AB.number((1, 0)), AB.steps, AB.limits, AB.weakest_case, AB.strongest_case)
    yield from (order.join_of((1, 0), (0, 1)), order.meet_of((1, 0), (0, 1)), order.between(AB, (0, 0), (1, 1)))
    yield from (BOOK.rows, AWARDS.at(2).rows, book.quarrels(QUARREL), book.bounds(BOOK, (1, 0)))
    yield from (book.settled(BOOK, (1, 1)), judge.table(), judge((1, 0)),
                judge.first_break(book.Book(AB, 1, [((1, 0), 0)])))
    yield from (judge.parting(judges.Judge(AB)), exchange.ExchangedJudge(judge).table())
    yield from (exchange.exchanged_case(AB, (1, 0)), exchange.exchanged_book(BOOK).rows)
    yield from (neighbors.stronger_by_one(AB, (0, 0)), neighbors.shortest_chain(AB, (0, 0), (1, 1)))
    yield from (booklines.read_book("ab// 1\na// 1").rows, booklines.read_words(AB, "a// //"))
    yield from (settling.reasons(BOOK, (1, 0)), settling.settled_table(BOOK), list(settling.unsettled(BOOK)))
    yield from (list(rising.rising_tables(BOOK)), rising.TableJudge(AB, 1, (0, 0, 1, 1)).table())
    yield from (leastbook.least_book(BOOK).rows, leastbook.spare_rows(BOOK), sidebooks.common(BOOK, BOOK))
    yield from (web.least_cover([1], [1], [(0, 0)]), web.most_apart([1], [1], [(0, 0)]))
    yield from (overruling.best_grades(QUARREL), overruling.overruled(QUARREL), overruling.least_price(QUARREL))
    yield from (overruling.apart(QUARREL), overruling.regraded(QUARREL, [1, 1]).rows, list(falls.overrulings(QUARREL)))
    yield from (changes.least_changes(AWARDS), changes.changes_price(AWARDS, [1, 1]), thresholds.award_papers(AWARDS))
    yield from (thresholds.stacked(thresholds.threshold_books(AWARDS)).rows,)
    yield from (evening.greatest_fall(AWARDS), evening.even_changes(AWARDS), evening.greatest_change(AWARDS, [1, 1]))
    yield from rule_results()
    yield from ladder_results()
    yield from suit_results()
    yield from court_results()
    yield from ask_results()
    yield from docket_results()
    yield from desk_results()


def rule_results():
    """What the functions and methods about rules return for some arguments."""
    ruled = rules.Rules(AB, [((1, 0), (0, 0), 1)])
    yield from (ruled.decide((0, 1), (1, 1), 0), ruled.rows, ruled.told, ruled.speaking((1, 1)))
    yield from (ruled.case_book().rows, ruled.rule_book().rows, ruled.told_book().rows)
    yield from (rules.narrowed(((1, 0), (0, 0), 1), (0, 1)), widest.widest_rules(ruled, (1, 1), 1))
    yield list(widest.free_cases(rules.Rules(AB)))


def ladder_results():
    """What the functions and methods about the ladder of judges return for some arguments."""
    ranked, weighing = kinds.RankedJudge(AB, [(0, 1)], 0), kinds.WeighingJudge(AB, [1, 2], 2)
    yield from (kinds.SingleJudge(AB, 0).table(), ranked.table(), ranked.ground_for((1, 0)), ranked.ground_for((0, 1)))
    yield from (weighing.table(), weighing.weight_of((1, 1)), closing.closing(BOOK),
                closing.greatest_closed_set(QUARREL))
    found = [ladder.keeper(kind, QUARREL) for kind in kinds.KINDS] + [papers.Paper(), balance.weighing_keeper(QUARREL)]
    for paper in found:
        yield from (paper.text, paper.row_numbers())
    for kind in kinds.KINDS:
        yield from (ladder.keeper(kind, BOOK).table(), ladder.verdict(kind, BOOK, (1, 1))[0])
    yield from (climbing.climb(ranked).weights, climbing.climb(weighing).rows, climbing.rung_of(weighing).table())
    yield climbing.descend(papers.Quarrel(0, 1), QUARREL).counts


def suit_results():
    """What the functions and methods about suits return for some arguments."""
    suit = suits.Suit([AB, forum.Forum("c")])
    parts = ((1, 0), (1,))
    rulings = suits.Rulings(suit, [(parts, "any", 1), (((0, 0), None), "any", 0)])
    yield from (suit.joined_case(parts), rulings.rows, list(rulings), rulings.choice_rows(),
                rulings.added(parts, "all", 0).rows)
    panel = panels.Panel(suit, [judges.Judge(AB), kinds.SingleJudge(suit.forums[1], 0)])
    yield from (panel(parts, "all"), panel(parts, "any"), panel.first_break(rulings))
    yield from (picks.known_parts(rulings, (1, None)), list(picks.all_picks(rulings)), picks.first_picks(rulings))
    yield [judge.rows for judge in picks.panel_of(rulings, (1, None)).judges]
    lost = rulings.added(parts, "any", 0)
    yield from (trees.panel_or_tree(lost), trees.leaves(trees.panel_or_tree(lost)), issues.forced_picks(rulings))
    yield issues.ruling_status(rulings, parts, "any")


def court_results():
    """What the functions and methods about courts return for some arguments."""
    house = courts.Courts(AB, [-1, 0], [1, 0])
    diary = courts.Diary(house, [("decide", 1, (1, 0), 1), ("close", 0), ("decide", 1, (1, 1), 0)])
    yield from (house.line_of(1), diary.entries, list(diary), diary.closed_courts(), diary.closed(1).entries)
    yield from (diary.decided(1, (0, 0), 0).entries, standing.standing(diary), standing.beater(diary, 0))
    yield from (standing.binding(diary, 1).rows, telling.first_unclosed(diary, 1), telling.final_book(diary, 1).rows)
    yield from (telling.told(diary, 1, (1, 1)), telling.lowest_court(diary, 1, (1, 1), 1))
    yield from (list(turns.turns(diary)), turns.history(diary, 1, (1, 1)))


def ask_results():
    """What the functions and methods about asks return for some arguments."""
    judge, open_book = kinds.SingleJudge(AB, 0), book.Book(AB)
    yield from (asks.fewest_asks(open_book), asks.best_ask(open_book), asks.hard_answer(open_book, (1, 0)),
                asks.hard_answer(BOOK, (1, 1)))
    taught = learner.Learner(open_book)
    yield from (taught.remaining, taught.next_ask(), taught.answer(1), taught.answers, taught.remaining,
                taught.judge().rows)
    yield from (list(learner.asked(open_book, judge)), teaching.teaching(open_book, judge),
                teaching.turned_judge(judge, (0, 1)).grades)
    yield from (chains.fewest_chains(open_book), chains.widest(open_book))
    for side in (0, 1):
        yield from (duel.duel_value(open_book, side), duel.duel_move(open_book, side))


def docket_results():
    """What the functions and methods about dockets return for some arguments."""
    files = docket.Docket(AB)
    yield from (files.decide((1, 0), 1), files.decide((1, 1), 0), files.regrade(0, 0), files.undo(), files.strike(1),
                files.undo())
    yield from (list(files), files[0], files.deeds, files.now.rows, files.odds, files.bounds_at((1, 0)),
                files.attempt([("redo",)]))
    yield from (journal.journal(files), list(journal.replayed("ab// 1\ndecide a// 1")))


def desk_results():
    """What the functions and methods of desks return for some arguments."""
    yield from (desk.read_number("12"), desk.Desk().run("a\nb"), desk.Desk().lines,
                paperlines.read_paper("balance 0:1 1:1").counts)
    house = courthouse.Courthouse(docket.Docket(AB))
    yield from (house.run("decide a// 1\ndecide ab// 0\nfalls"), house.together("undo\nopinion a//"), house.lines,
                house.answer("asks"))
    for kind in (bookdesk.BookDesk, falldesk.FallDesk, ladderdesk.LadderDesk, askdesk.AskDesk):
        yield kind(docket.Docket(AB)).run("decide a// 1\nquarrels\neven\npaper single\nwidth")
    files = issuedesk.IssueDesk(suits.Suit([AB]))
    yield from (files.run("rule all 1 a//\nstatus any ab//"), files.rulings.rows, files.lines)
    files = courtdesk.CourtDesk(courts.Courts(AB, [-1, 0], [1, 0]))
    yield from (files.run("decide 1 a// 1\ntold 1 a//\nlowest 1 a// 0"), files.diary.entries, files.lines)


def truth_values(found):
    """The truth values in a result, however deep."""
    if isinstance(found, (list, tuple)):
        return [value for entry in found for value in truth_values(entry)]
    return [found] if isinstance(found, bool) else []


def lists(found):
    """The lists in a result, however deep."""
    if isinstance(found, (list, tuple)):
        inner = [value for entry in found for value in lists(entry)]
        return inner + [found] if isinstance(found, list) else inner
    return []


class ResultsTest(unittest.TestCase):
    def test_no_truth_value_as_a_number(self):
        """Point 2."""
        for found in results():
            self.assertEqual(truth_values(found), [])

    def test_same_arguments_same_results(self):
        """Points 2 and 3: changing what was returned has no effect on what is returned later."""
        first = [repr(found) for found in results()]
        for found in results():
            for changed in lists(found):
                changed.append("changed")
        self.assertEqual([repr(found) for found in results()], first)

    def test_every_list_is_new(self):
        """Point 3."""
        seen = [changed for _ in range(2) for found in results() for changed in lists(found)]
        self.assertEqual(len({id(changed) for changed in seen}), len(seen))
        self.assertGreater(len(seen), 10)

    def test_papers_hold_new_lists(self):
        """Point 3, for lists in a list."""
        for papers in (thresholds.award_papers(AWARDS), thresholds.award_papers(book.Book(AB, 4))):
            self.assertEqual(len({id(paper) for paper in papers}), len(papers))
            self.assertTrue(all(isinstance(paper, list) for paper in papers))


class ArgumentsTest(unittest.TestCase):
    def test_lists_stay_as_they_are(self):
        """Point 3."""
        case_list, pairs, sides, rows = [(1, 1), (0, 0), (1, 1)], [(0, 1), (0, 0), (0, 1)], [1, 2], [((1, 0), 1)]
        order.weakest(case_list)
        order.strongest(case_list)
        booklines.case_words(AB, case_list)
        web.least_cover(sides, sides, pairs)
        web.least_cover(sides, sides, pairs, high=True)
        web.most_apart(sides, sides, pairs)
        judges.FloorJudge(AB, 1, rows)
        book.Book(AB, 1, rows)
        papers.Balance(pairs).row_numbers()
        kinds.WeighingJudge(AB, sides, 1).table()
        deeds = [("decide", (1, 0), 1), ("undo",)]
        docket.Docket(AB).attempt(deeds)
        self.assertEqual(deeds, [("decide", (1, 0), 1), ("undo",)])
        self.assertEqual((case_list, pairs), ([(1, 1), (0, 0), (1, 1)], [(0, 1), (0, 0), (0, 1)]))
        self.assertEqual((sides, rows), ([1, 2], [((1, 0), 1)]))

    def test_lists_stay_as_they_are_after_an_error(self):
        """Point 4."""
        rows, prices, pairs = [((1, 0), 1), ((1, 1), 3)], [1, 0], [(0, 0), (3, 3)]
        for asked in (
            lambda: book.Book(AB, 1, rows), lambda: judges.CeilingJudge(AB, 1, rows),
            lambda: overruling.apart(QUARREL, prices),
            lambda: web.most_apart(prices, prices, pairs), lambda: overruling.regraded(QUARREL, [1, 2, 3]),
            lambda: QUARREL - [1, 2],
        ):
            with self.assertRaises(CourtError):
                asked()
        self.assertEqual((rows, prices, pairs), ([((1, 0), 1), ((1, 1), 3)], [1, 0], [(0, 0), (3, 3)]))
        self.assertEqual(QUARREL.rows, (((1, 0), 1), ((1, 1), 0)))

    def test_generators_raise_when_iterated(self):
        """Point 4."""
        for waiting, error in [
            (settling.unsettled(QUARREL), AtOdds), (sidebooks.dividing(QUARREL, BOOK), AtOdds),
            (rising.rising_tables(book.Book(forum.Forum("abcde"))), TooLarge), (falls.overrulings(AWARDS), NotYesNo),
            (learner.asked(QUARREL, judges.Judge(AB)), AtOdds), (learner.asked(AWARDS, judges.Judge(AB)), NotYesNo),
        ]:
            with self.assertRaises(error):
                list(waiting)
