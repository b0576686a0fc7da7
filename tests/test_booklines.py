"""Written books and lists of cases (points 19 and 20)."""

import unittest

from settledcases.book import Book
from settledcases.booklines import book_text, case_words, read_book, read_words
from settledcases.errors import BadText, NoCase
from settledcases.forum import Forum
from tests.support import FORUMS, sample_books


class BooksTest(unittest.TestCase):
    """Point 19."""

    def test_examples(self):
        book = Book(Forum("a", "m"), 2, [((1, 0), 2), ((0, 1), 0)])
        self.assertEqual(book_text(book), "a/m/ 2\na/m/ 2\n// 0")
        self.assertEqual(book_text(Book(Forum("", "", (3, 2)), 4)), "//32 4")

    def test_read_back(self):
        for book in sample_books(FORUMS, (1, 2, 3, 4), (0, 1, 9, 10), 2):
            again = read_book(book_text(book))
            self.assertEqual((again.forum.text, again.top, again.rows), (book.forum.text, book.top, book.rows))
            self.assertEqual(again.forum.limits, book.forum.limits)

    def bad_line(self, text):
        with self.assertRaises(BadText) as caught:
            read_book(text)
        return caught.exception.line

    def test_bad_first_lines(self):
        for line in [
            "", " ", "1", " 1", "ab//", "ab// ", "ab//1", "ab//  1", " ab// 1", "ab// 1 ", "ab// 0", "ab// 5", "ab// 01",
            "ab// 10", "ab// 12", "ab// +1", "ab// -1", "ab// x", "aa// 1", "a/a/ 1", "// 1", "abcdef// 1", "ab/ 1",
            "a//4 1", "a//0 1", "Ab// 1", "ab// 1 1", "a b// 1", "1 ab//",
        ]:
            self.assertEqual(self.bad_line(line), 1)
            self.assertEqual(self.bad_line(line + "\na// 1"), 1)
            self.assertEqual(self.bad_line(line + "\nno"), 1)

    def test_bad_later_lines(self):
        for line in [
            "", " ", "1", "a//", "a// ", "a//1", "a//  1", " a// 1", "a// 1 ", "a// 3", "a// 9", "a// 01", "a// 00", "a// 10",
            "a// +1", "a// -1", "a// x", "ba// 1", "aa// 1", "/a/ 1", "c// 1", "a/ 1", "a//0 1", "A// 1", "a// 1 1",
            "a / 1", "ab//1 2", "a// 12",
        ]:
            self.assertEqual(self.bad_line("ab// 2\n" + line), 2)
            self.assertEqual(self.bad_line("ab// 2\na// 0\nb// 2\n" + line), 4)
            self.assertEqual(self.bad_line("ab// 2\na// 0\n" + line + "\nb// 2"), 3)
            self.assertEqual(self.bad_line("ab// 2\na// 0\n" + line + "\nno\n"), 3)

    def test_grades_to_each_top(self):
        for top in (1, 2, 3, 4):
            for grade in range(10):
                text = f"ab// {top}\na// {grade}"
                if grade <= top:
                    self.assertEqual(read_book(text).rows, (((1, 0), grade),))
                else:
                    self.assertEqual(self.bad_line(text), 2)

    def test_a_newline_at_the_end(self):
        self.assertEqual(self.bad_line("ab// 1\n"), 2)
        self.assertEqual(self.bad_line("ab// 1\na// 1\n"), 3)
        self.assertEqual(self.bad_line("\nab// 1"), 1)
        self.assertEqual(self.bad_line("ab// 1\n\na// 1"), 2)

    def test_too_many_rows(self):
        ten = "ab// 1" + "\na// 1" * 10
        self.assertEqual(len(read_book(ten).rows), 10)
        self.assertEqual(self.bad_line(ten + "\na// 1"), 12)
        self.assertEqual(self.bad_line(ten + "\n"), 12)
        self.assertEqual(self.bad_line(ten + "\nno\nno"), 12)
        self.assertEqual(self.bad_line(ten + "\na// 1\na// 1"), 12)
        self.assertEqual(self.bad_line("ab// 1\na// 1\na// 7" + "\na// 1" * 9), 3)
        self.assertEqual(self.bad_line("ab// 1" + "\na// 1" * 9 + "\na// 7\na// 1"), 11)

    def test_cases_of_the_forum(self):
        self.assertEqual(read_book("a/m/2 3\n/m/2 3").rows, (((0, 0, 2), 3),))
        self.assertEqual(self.bad_line("a/m/2 3\na/m/3 3"), 2)
        self.assertEqual(self.bad_line("a/m/2 3\na/m/ 3"), 2)


class CaseListsTest(unittest.TestCase):
    """Point 20."""

    def test_written(self):
        forum = Forum("ab", "m")
        self.assertEqual(case_words(forum, [(1, 0, 1), (0, 0, 0), (1, 0, 1)]), "a// /m/ a//")
        self.assertEqual(case_words(forum, ((1, 1, 1),)), "ab//")
        self.assertEqual(case_words(forum, []), "")

    def test_read_back(self):
        for forum in FORUMS:
            cases = list(forum) + list(forum)[:2]
            self.assertEqual(read_words(forum, case_words(forum, cases)), cases)
            self.assertEqual(read_words(forum, forum.word(cases[1])), [cases[1]])
            self.assertEqual(read_words(forum, ""), [])

    def test_arguments_stay_as_they_are(self):
        cases = [(1, 0), (0, 0)]
        case_words(Forum("ab"), cases)
        self.assertEqual(cases, [(1, 0), (0, 0)])

    def test_no_case(self):
        with self.assertRaises(NoCase):
            case_words(Forum("ab"), [(1, 0), (1, 2)])

    def test_bad_texts(self):
        for text in [" ", "a// ", " a//", "a//  b//", "a//\nb//", "a//\n", "\n", "a//b//", "a//,b//", "a// ba//", "a// c//", "x", "a// x"]:
            with self.assertRaises(BadText) as caught:
                read_words(Forum("ab"), text)
            self.assertEqual(caught.exception.line, 1)
