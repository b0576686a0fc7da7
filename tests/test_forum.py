"""Forums and their cases, steps and written forms (points 5, 6, 7 and 9)."""

import unittest

from settledcases.errors import BadText, NoCase, NoForum, NoRow
from settledcases.forum import Forum
from tests.support import FORUMS, HUGE, all_cases


class MakingTest(unittest.TestCase):
    """Point 5."""

    def test_one_to_five_steps(self):
        for pro, con, tops in [
            ("a", "", ()), ("", "a", ()), ("", "", (1,)), ("abcde", "", ()), ("", "abcde", ()), ("ab", "cde", ()),
            ("", "", (3, 2)), ("", "", (2, 3)), ("", "", (1, 1, 1, 1, 1)), ("a", "z", (3,)), ("zy", "", (1, 2)),
        ]:
            forum = Forum(pro, con, tops)
            self.assertEqual((forum.pro, forum.con, forum.tops), (pro, con, tops))

    def test_no_step_and_six_steps(self):
        for pro, con, tops in [
            ("", "", ()), ("abcdef", "", ()), ("", "abcdef", ()), ("abc", "def", ()), ("", "", (3, 3)),
            ("", "", (1, 1, 1, 1, 1, 1)), ("abc", "", (3,)), ("a", "bc", (1, 2)), ("abcdefghijklmnopqrstuvwxyz", "", ()),
        ]:
            with self.assertRaises(NoForum):
                Forum(pro, con, tops)

    def test_defaults_and_keywords(self):
        with self.assertRaises(NoForum):
            Forum()
        self.assertEqual(Forum(con="m").text, "/m/")
        self.assertEqual(Forum(tops=[2]).text, "//2")
        self.assertEqual(Forum(tops=(1,), con="b", pro="a").text, "a/b/1")

    def test_a_letter_twice(self):
        for pro, con in [("aa", ""), ("", "mm"), ("a", "a"), ("ab", "ca"), ("aba", "")]:
            with self.assertRaises(NoForum):
                Forum(pro, con)

    def test_other_characters(self):
        for other in ["A", "Z", "0", "9", " ", "/", "-", "\n", "`", "{", "~", "_"]:
            with self.assertRaises(NoForum):
                Forum(other, "b")
            with self.assertRaises(NoForum):
                Forum("b", "c" + other)

    def test_tops(self):
        for top in (1, 2, 3):
            self.assertEqual(Forum("", "", [top]).tops, (top,))
        for top in (0, 4, 5, -1, -3, HUGE, -HUGE):
            with self.assertRaises(NoForum):
                Forum("", "", [top])
            with self.assertRaises(NoForum):
                Forum("a", "m", [1, top])
        # The sum of the tops alone would be in range here.
        for tops in [(4, -1), (-1, 3), (0, 1), (5, -3)]:
            with self.assertRaises(NoForum):
                Forum("", "", tops)
        with self.assertRaises(NoForum):
            Forum("a", "", (0,))

    def test_class_values(self):
        self.assertEqual((Forum.STEPS, Forum.TOPS), (5, 3))

    def test_tops_are_copied(self):
        tops = [2, 1]
        forum = Forum("a", "", tops)
        tops[0] = 3
        tops.append(1)
        self.assertEqual(forum.tops, (2, 1))
        self.assertEqual(forum.limits, (1, 2, 1))
        self.assertEqual(forum.text, "a//21")


class CasesTest(unittest.TestCase):
    """Point 6."""

    def test_limits(self):
        self.assertEqual(Forum("ab", "m", (2,)).limits, (1, 1, 1, 2))
        self.assertEqual(Forum("", "", (3, 1)).limits, (3, 1))
        self.assertEqual(Forum("abcde").limits, (1, 1, 1, 1, 1))

    def test_all_cases_ascending(self):
        self.assertEqual(list(Forum("a", "", (2,))), [(0, 0), (0, 1), (0, 2), (1, 0), (1, 1), (1, 2)])
        self.assertEqual(list(Forum("", "m")), [(0,), (1,)])
        for forum in FORUMS:
            cases = all_cases(forum)
            self.assertEqual(list(forum), cases)
            self.assertEqual(cases, sorted(cases))
            self.assertEqual(forum.size, len(cases))
            self.assertEqual(forum.weakest_case, cases[0])
            self.assertEqual(forum.strongest_case, cases[-1])
            self.assertEqual(forum.strongest_case, forum.limits)
            self.assertEqual([forum.number(case) for case in cases], list(range(len(cases))))

    def test_two_loops_at_once(self):
        forum = Forum("ab")
        self.assertEqual(len([(x, y) for x in forum for y in forum]), 16)

    def test_every_case_is_in_the_forum(self):
        for forum in FORUMS:
            for case in forum:
                self.assertIs(case in forum, True)

    def test_tuples_that_are_no_cases(self):
        forum = Forum("a", "m", (2,))
        wrong = [
            (), (0,), (0, 0), (0, 0, 0, 0), (1, 1, 2, 0), (2, 0, 0), (-1, 0, 0), (0, 2, 0), (0, -1, 0), (0, 0, 3),
            (0, 0, -1), (HUGE, 0, 0), (0, -HUGE, 0), (0, 0, HUGE),
        ]
        for case in wrong:
            self.assertIs(case in forum, False)
            for asked in (forum.number, forum.word):
                with self.assertRaises(NoCase):
                    asked(case)
            with self.assertRaises(NoCase):
                forum.reaches(case, 0)


class WrittenFormTest(unittest.TestCase):
    """Point 7."""

    def test_forums(self):
        for forum, text in [
            (Forum("ab", "m", (2,)), "ab/m/2"), (Forum("ba", "", ()), "ba//"), (Forum("", "q"), "/q/"),
            (Forum("", "", (3, 1, 1)), "//311"), (Forum("z", "y"), "z/y/"),
        ]:
            self.assertEqual(forum.text, text)
            again = Forum.read(text)
            self.assertIsInstance(again, Forum)
            self.assertEqual((again.pro, again.con, again.tops), (forum.pro, forum.con, forum.tops))

    def test_no_forums(self):
        for text in [
            "", "/", "//", "///", "a", "a/", "/a", "a/m", "a/m/2/", "/a/m/2", "a/m/2/1", "a//m/2", "A/m/2", "a/M/2",
            "a/m/0", "a/m/4", "a/m/9", "a/m/x", "a/m/-1", "a/m/+1", "a/m/ 1", "a/m/1 ", " a/m/1", "a /m/1", "a/m/1\n",
            "\na/m/1", "a/m\n/1", "aa/m/1", "a/a/1", "ab/mn/2", "abcdef//", "//33", "a/m/1,1", "a/m/1.", "a1/m/", "a//03",
            "//0", "//111111", "a\\m\\1",
        ]:
            with self.assertRaises(BadText) as caught:
                Forum.read(text)
            self.assertEqual(caught.exception.line, 1)

    def test_words(self):
        forum = Forum("ab", "m", (2,))
        for case, word in [
            ((1, 0, 1, 2), "a//2"), ((1, 1, 0, 0), "ab/m/0"), ((0, 0, 1, 0), "//0"), ((0, 1, 0, 1), "b/m/1"),
        ]:
            self.assertEqual(forum.word(case), word)
            self.assertEqual(forum.read_case(word), case)
        self.assertEqual(Forum("ba", "nm").word((1, 1, 0, 0)), "ba/nm/")
        self.assertEqual(Forum("ba", "nm").word((0, 0, 1, 1)), "//")
        self.assertEqual(Forum("", "", (3, 2)).word((1, 2)), "//12")

    def test_all_words_are_read_back(self):
        for forum in FORUMS:
            words = [forum.word(case) for case in forum]
            self.assertEqual(len(set(words)), forum.size)
            self.assertEqual([forum.read_case(word) for word in words], list(forum))

    def test_no_words(self):
        forum = Forum("ab", "mn", (1,))
        self.assertEqual(forum.read_case("ab/mn/1"), (1, 1, 0, 0, 1))
        for text in [
            "", "/", "//", "ba/mn/1", "ab/nm/1", "aab/mn/1", "ab/mmn/1", "am/n/1", "a/bm/1", "m/ab/1", "ab/mn", "ab/mn1",
            "abmn/1", "ab//mn/1", "ab/mn/1/", "/ab/mn/1", "ab/mn/", "ab/mn/2", "ab/mn/11", "ab/mn/01", "ab/mn/-1",
            "ab/mn/x", " ab/mn/1", "ab/mn/1 ", "ab /mn/1", "ab/mn/ 1", "a b/mn/1", "ab/mn/1\n", "\nab/mn/1", "AB/mn/1",
            "ab/MN/1", "abc/mn/1", "ab/mnc/1", "ab\\mn\\1",
        ]:
            with self.assertRaises(BadText) as caught:
                forum.read_case(text)
            self.assertEqual(caught.exception.line, 1)

    def test_amounts_above_the_top(self):
        forum = Forum("", "", (1, 3))
        self.assertEqual(forum.read_case("//13"), (1, 3))
        for text in ["//23", "//14", "//31", "//1", "//131", "//013"]:
            with self.assertRaises(BadText):
                forum.read_case(text)


class StepsTest(unittest.TestCase):
    """Point 9."""

    def test_steps(self):
        self.assertEqual(Forum("a", "m", (2,)).steps, ((0, 1), (1, 1), (2, 1), (2, 2)))
        self.assertEqual(Forum("", "", (3, 2)).steps, ((0, 1), (0, 2), (0, 3), (1, 1), (1, 2)))
        for forum in FORUMS:
            self.assertEqual(list(forum.steps), sorted(forum.steps))
            self.assertEqual(len(forum.steps), len(forum.pro) + len(forum.con) + sum(forum.tops))

    def test_reaching(self):
        forum = Forum("a", "", (2,))
        self.assertEqual([forum.reaches((0, 0), step) for step in range(3)], [False, False, False])
        self.assertEqual([forum.reaches((0, 1), step) for step in range(3)], [False, True, False])
        self.assertEqual([forum.reaches((1, 2), step) for step in range(3)], [True, True, True])
        for case in forum:
            for number, (place, level) in enumerate(forum.steps):
                self.assertIs(forum.reaches(case, number), case[place] >= level)

    def test_no_step(self):
        forum = Forum("a", "m", (2,))
        for step in (-1, -4, 4, 5, HUGE, -HUGE):
            with self.assertRaises(NoRow):
                forum.reaches((0, 0, 0), step)

    def test_no_case_comes_first(self):
        with self.assertRaises(NoCase):
            Forum("ab").reaches((0, 2), 9)
