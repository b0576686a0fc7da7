"""Books and lists of cases in their written forms (points 19 and 20)."""

from settledcases.book import Book
from settledcases.errors import BadText
from settledcases.forum import Forum, digit_value


def book_text(book):
    """The written form of the book."""
    lines = [head_text(book.forum, book.top)]
    return "\n".join(lines + [row_text(book.forum, case, grade) for case, grade in book])


def head_text(forum, top):
    """The first line of a book."""
    return f"{forum.text} {top}"


def row_text(forum, case, grade):
    """The line of a row of a book."""
    return f"{forum.word(case)} {grade}"


def read_book(text):
    """The book with this written form."""
    lines = text.split("\n")
    forum, top = read_head(lines[0])
    rows = []
    for before, line in enumerate(lines[1:]):
        if before == Book.ROWS:
            raise BadText(before + 2)
        rows.append(read_row(forum, top, line, before + 2))
    return Book(forum, top, rows)


def read_head(line):
    """The forum and the top of a first line."""
    word, _, figure = line.rpartition(" ")
    top = digit_value(figure)
    if not 1 <= top <= Book.TOPS:
        raise BadText(1)
    return Forum.read(word), top


def read_row(forum, top, line, number):
    """The decision of a later line, which has this number in its text."""
    word, _, figure = line.rpartition(" ")
    grade = digit_value(figure)
    if not 0 <= grade <= top:
        raise BadText(number)
    try:
        return forum.read_case(word), grade
    except BadText:
        raise BadText(number) from None


def case_words(forum, cases):
    """The written form of the list of cases."""
    return " ".join([forum.word(case) for case in cases])


def read_words(forum, text):
    """The list of cases of the forum with this written form."""
    if text == "":
        return []
    return [forum.read_case(word) for word in text.split(" ")]
