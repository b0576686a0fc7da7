"""Desks in general (points 95 and 96)."""

import unittest

from settledcases.desk import Desk, read_number
from settledcases.errors import BadText, CourtError, NoCommand, NoRow, TooLarge
from tests.desks import NO_NUMBERS


class Echo(Desk):
    """A desk that answers the line `say WORD`, and raises errors for some words."""

    def reply(self, words):
        if len(words) != 2 or words[0] != "say":
            return super().reply(words)
        for word, error in [("row", NoRow), ("large", TooLarge), ("key", KeyError)]:
            if words[1] == word:
                raise error
        if words[1] == "bad":
            raise BadText(1)
        return words[1].upper()


class ReadNumberTest(unittest.TestCase):
    """Point 95."""

    def test_numbers(self):
        for number in list(range(1200)) + [10 ** 999, 10 ** 1000 - 1, 7 ** 1000, 123456789 ** 40]:
            self.assertEqual(read_number(str(number)), number)
        self.assertEqual(read_number(word="0"), 0)
        self.assertEqual(type(read_number("1")), int)

    def test_lengths(self):
        self.assertEqual(read_number("1" * 1000), (10 ** 1000 - 1) // 9)
        for word in ["1" * 1001, "1" + "0" * 1000, "9" * 2000, "9" * 6000, "0" + "1" * 999, "0" * 1000, "0" * 1001]:
            with self.assertRaises(BadText) as caught:
                read_number(word)
            self.assertEqual(caught.exception.line, 1)

    def test_other_words(self):
        signs = [chr(code) for code in range(32, 127)] + ["\n", "\t"]
        words = list(NO_NUMBERS) + [sign for sign in signs if not sign.isdigit()] + ["one", "0 ", " 0", "1 ", " 1",
                                                                                     "1\n", "--1", "1-", "0b1", "1 2"]
        words += [f"1{sign}0" for sign in signs if not sign.isdigit()] + [f"0{digit}" for digit in range(10)]
        for word in words:
            with self.assertRaises(BadText) as caught:
                read_number(word)
            self.assertEqual(caught.exception.line, 1)


class DeskTest(unittest.TestCase):
    """Points 95 and 96."""

    def test_a_desk_that_knows_no_lines(self):
        desk = Desk()
        self.assertEqual(desk.lines, ())
        for words in [[""], ["undo"], ["decide", "a//", "1"], ("", ""), ["lines"]]:
            with self.assertRaises(NoCommand):
                desk.reply(words)
            with self.assertRaises(NoCommand):
                desk.answer(" ".join(words))
        self.assertEqual(desk.run("undo\n\nredo"), ["refused"] * 3)
        self.assertEqual(desk.lines, ())

    def test_lines(self):
        desk = Echo()
        self.assertEqual(desk.answer("say a"), "A")
        for line, error in [("say row", NoRow), ("say bad", BadText), ("say", NoCommand), ("say  b", NoCommand),
                            ("", NoCommand)]:
            with self.assertRaises(error):
                desk.answer(line)
            self.assertEqual(desk.lines, ("say a",))
        self.assertEqual([desk.answer(line=line) for line in ("say ", "say a", "say b")], ["", "A", "B"])
        self.assertEqual(desk.lines, ("say a", "say ", "say a", "say b"))

    def test_a_reply_keeps_no_line(self):
        desk, words = Echo(), ["say", "a"]
        self.assertEqual([desk.reply(words), desk.reply(words=("say", "b"))], ["A", "B"])
        self.assertEqual((desk.lines, words), ((), ["say", "a"]))

    def test_words(self):
        """The words of a line with n spaces are n + 1."""
        seen = []

        class Listener(Desk):
            def reply(self, words):
                seen.append(words)
                return ""
        lines = ["", " ", "  ", "a", " a", "a ", "a  b", "a\tb c", "a b c "]
        for line in lines:
            Listener().answer(line)
        self.assertEqual(seen, [[""], ["", ""], ["", "", ""], ["a"], ["", "a"], ["a", ""], ["a", "", "b"],
                                ["a\tb", "c"], ["a", "b", "c", ""]])
        self.assertTrue(all(isinstance(words, list) for words in seen))

    def test_run(self):
        desk = Echo()
        self.assertEqual(desk.run("say a\nsay row\nsay large\n\nsay  a\nsay \nsay b"),
                         ["A", "refused", "refused", "refused", "refused", "", "B"])
        self.assertEqual(desk.lines, ("say a", "say ", "say b"))
        self.assertEqual([desk.run(""), desk.run("\n"), desk.run(text="say c\n")],
                         [["refused"], ["refused"] * 2, ["C", "refused"]])
        self.assertEqual(desk.lines, ("say a", "say ", "say b", "say c"))
        desk.run("say a").append("more")
        self.assertEqual(desk.run("say a"), ["A"])

    def test_exceptions_of_other_classes(self):
        desk = Echo()
        with self.assertRaises(KeyError):
            desk.run("say a\nsay key\nsay b")
        self.assertEqual(desk.lines, ("say a",))
        self.assertFalse(issubclass(KeyError, CourtError))

    def test_two_desks(self):
        one, other = Echo(), Echo()
        one.answer("say a")
        self.assertEqual((one.lines, other.lines), (("say a",), ()))
