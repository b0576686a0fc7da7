"""The examples of the interface, as they stand there.

>>> from settledcases.forum import Forum
>>> forum = Forum("a", "m", (2,))
>>> [forum.text, forum.limits, forum.steps, forum.size]
['a/m/2', (1, 1, 2), ((0, 1), (1, 1), (2, 1), (2, 2)), 12]

>>> from settledcases.forum import Forum
>>> forum = Forum.read("ab/m/2")
>>> [forum.word((1, 0, 1, 2)), forum.read_case("ab/m/0")]
['a//2', (1, 1, 0, 0)]

>>> from settledcases.forum import Forum
>>> from settledcases.book import Book, bounds, quarrels, settled
>>> book = Book(Forum("ab"), 1, [((1, 0), 1)])
>>> [settled(book, (1, 1)), settled(book, (0, 1)), bounds(book, (0, 0))]
[1, None, (0, 1)]
>>> quarrels(book.added((1, 1), 0))
[(0, 1)]

>>> from settledcases.forum import Forum
>>> from settledcases.exchange import exchanged_case
>>> exchanged_case(Forum("ab", "m", (2,)), (1, 0, 1, 2))
(0, 0, 1, 0)

>>> from settledcases.booklines import read_book
>>> read_book("a/m/ 2\\na/m/ 2\\n// 0").rows
(((1, 0), 2), ((0, 1), 0))

>>> from settledcases.forum import Forum
>>> from settledcases.book import Book
>>> from settledcases.overruling import best_grades, least_price
>>> from settledcases.falls import overrulings
>>> book = Book(Forum("ab"), 1, [((1, 0), 1), ((1, 1), 0), ((0, 1), 1)])
>>> [best_grades(book), least_price(book)]
[(1, 1, 1), 1]
>>> [best_grades(book, [1, 2, 1]), best_grades(book, [1, 2, 1], high=True)]
[(0, 0, 0), (1, 1, 1)]
>>> list(overrulings(book, [1, 2, 1]))
[(0, 2), (1,)]

>>> from settledcases.forum import Forum
>>> from settledcases.book import Book
>>> from settledcases.changes import least_changes
>>> from settledcases.evening import even_changes, greatest_fall
>>> book = Book(Forum("ab"), 3, [((0, 0), 3), ((1, 0), 1), ((1, 1), 2)])
>>> [least_changes(book), least_changes(book, high=True)]
[(1, 1, 2), (2, 2, 2)]
>>> [greatest_fall(book), even_changes(book)]
[(2, (0, 1)), (2, 2, 2)]

>>> from settledcases.forum import Forum
>>> from settledcases.rules import Rules
>>> rules = Rules(Forum("abc"), [((1, 1, 0), (1, 0, 0), 1)])
>>> rules.decide((1, 0, 1), (1, 0, 1), 0)
(0,)
>>> rules.rows[0]
((1, 1, 0), (1, 1, 0), 1)

>>> from settledcases.forum import Forum
>>> from settledcases.book import Book
>>> from settledcases.ladder import keeper, verdict
>>> rows = [((1, 1, 0, 0), 1), ((0, 0, 1, 1), 1), ((1, 0, 1, 0), 0), ((0, 1, 0, 1), 0)]
>>> book = Book(Forum("abcd"), 1, rows)
>>> keeper("ranked", book).text
'closed 0 1 2 3'
>>> verdict("rising", book, (1, 1, 1, 0))[1].text
'quarrel 0 4'

>>> from settledcases.forum import Forum
>>> from settledcases.suits import Rulings, Suit
>>> from settledcases.trees import leaves, panel_or_tree
>>> suit = Suit([Forum("a"), Forum("b")])
>>> rulings = Rulings(suit, [(((0,), None), "all", 1), (((1,), (1,)), "all", 0), ((None, (0,)), "any", 1)])
>>> [rulings.choice_rows(), leaves(panel_or_tree(rulings))]
[(1, 2), 2]
>>> panel_or_tree(rulings)
('split', 1, ((0, ('quarrel', 0, 0, 1)), (1, ('split', 2, ((1, ('quarrel', 1, 2, 1)),)))))

>>> from settledcases.forum import Forum
>>> from settledcases.issues import forced_picks, ruling_status
>>> from settledcases.suits import Rulings, Suit
>>> suit = Suit([Forum("a"), Forum("b")])
>>> rulings = Rulings(suit, [(((0,), None), "all", 1), (((1,), (1,)), "all", 0)])
>>> [forced_picks(rulings), ruling_status(rulings, (None, (1,)), "all")[0]]
[((None, 1), None), 0]

>>> from settledcases.courts import Courts, Diary
>>> from settledcases.forum import Forum
>>> from settledcases.standing import standing
>>> from settledcases.telling import told
>>> courts = Courts(Forum("a"), [-1, 0], [0, 1])
>>> diary = Diary(courts, [("decide", 1, (1,), 1), ("decide", 0, (1,), 0), ("decide", 0, (1,), 1)])
>>> [standing(diary), told(diary, 1, (1,)), told(diary.closed(0), 1, (1,))]
[(0, 2), 'not yet', 'won']

>>> from settledcases.forum import Forum
>>> from settledcases.book import Book
>>> from settledcases.asks import best_ask, fewest_asks, hard_answer
>>> book = Book(Forum("ab"))
>>> [fewest_asks(book), best_ask(book), hard_answer(book, (0, 1)), hard_answer(book, (1, 1))]
[3, (0, 1), 0, 1]

>>> from settledcases.forum import Forum
>>> from settledcases.book import Book
>>> from settledcases.judges import FloorJudge
>>> from settledcases.learner import asked
>>> from settledcases.teaching import teaching
>>> book = Book(Forum("ab"))
>>> judge = FloorJudge(book.forum, 1, [((1, 0), 1)])
>>> [list(asked(book, judge)), teaching(book, judge)]
[[((0, 1), 0), ((1, 0), 1)], [((1, 0), 1), ((0, 1), 0)]]

>>> from settledcases.forum import Forum
>>> from settledcases.docket import Docket
>>> from settledcases.journal import journal
>>> docket = Docket(Forum("a"))
>>> docket.attempt([("decide", (1,), 0), ("decide", (0,), 1)])
>>> docket.odds
((1, 0),)
>>> docket.undo()
>>> [docket.odds, list(docket), journal(docket)]
[(), [((1,), 0)], 'a// 1\\ndecide a// 0\\ndecide // 1\\nundo']

>>> from settledcases.forum import Forum
>>> from settledcases.docket import Docket
>>> from settledcases.courthouse import Courthouse
>>> house = Courthouse(Docket(Forum("ab"), 1))
>>> house.run("decide a// 1\\ndecide ab// 0\\nfalls\\nundo\\nopinion b//")
['1 0', '2 1', 'sometimes sometimes', '1 0', '0 unsettled unsettled unsettled']
"""

import doctest
import os
import unittest

README = os.path.join(os.path.dirname(os.path.dirname(os.path.abspath(__file__))), "README.md")


def run_examples(text, name):
    """The number of examples in the text, and the number of those that fail."""
    test = doctest.DocTestParser().get_doctest(text, {}, name, name, 0)
    failed, tried = doctest.DocTestRunner(verbose=False).run(test)
    return tried, failed


class ExamplesTest(unittest.TestCase):
    def test_interface(self):
        self.assertEqual(run_examples(__doc__, "interface"), (89, 0))

    def test_readme(self):
        with open(README, encoding="utf-8") as file:
            tried, failed = run_examples(file.read(), "README.md")
        self.assertGreater(tried, 0)
        self.assertEqual(failed, 0)
