"""Desks, which answer lines with strings (points 95 and 96)."""

from settledcases.errors import BadText, CourtError, NoCommand
from settledcases.forum import DIGITS

MOST_DIGITS = 1000


def read_number(word):
    """The whole number with this written form."""
    if word == "" or len(word) > MOST_DIGITS or any([figure not in DIGITS for figure in word]):
        raise BadText(1)
    if word[0] == "0" and word != "0":
        raise BadText(1)
    return int(word)


def read_choice(word, choices):
    """The word, if it is one of the choices. Raises BadText."""
    if word not in choices:
        raise BadText(1)
    return word


def spaced(entries):
    """The numbers or words with single spaces between them."""
    return " ".join([str(entry) for entry in entries])


def shown(found, otherwise):
    """What was found as a string, or the other word for None."""
    return otherwise if found is None else str(found)


class Desk:
    """Answers lines, and keeps those that it has answered. It knows no lines itself."""

    def __init__(self):
        self.lines = ()

    def reply(self, words):
        """The answer to the line of these words."""
        raise NoCommand("the desk knows no line of this form")

    def answer(self, line):
        """The answer to the line, which is kept."""
        found = self.reply(line.split(" "))
        self.lines = self.lines + (line,)
        return found

    def run(self, text):
        """For each line of the text its answer, or refused."""
        answers = []
        for line in text.split("\n"):
            try:
                answers.append(self.answer(line))
            except CourtError:
                answers.append("refused")
        return answers
