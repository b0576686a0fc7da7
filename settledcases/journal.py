"""Journals: all deeds of a docket in a written form (point 94)."""

from settledcases.booklines import head_text, read_head
from settledcases.docket import Docket, do_deed
from settledcases.errors import BadText, CourtError
from settledcases.forum import digit_value


def journal(docket):
    """The journal of the docket."""
    lines = [deed_text(docket.forum, deed) for deed in docket.deeds]
    return "\n".join([head_text(docket.forum, docket.top)] + lines)


def deed_text(forum, deed):
    """The line of a deed."""
    word, *told = deed
    if word == "decide":
        told[0] = forum.word(told[0])
    return " ".join([word] + [str(entry) for entry in told])


def replayed(text):
    """The new docket whose journal is the text."""
    lines = text.split("\n")
    forum, top = read_head(lines[0])
    docket = Docket(forum, top)
    for before, line in enumerate(lines[1:]):
        do_line(docket, line, before + 2)
    return docket


def do_line(docket, line, number):
    """Does the deed of a line, which has this number in its text, on the docket."""
    try:
        do_deed(docket, read_deed(docket.forum, line))
    except CourtError:
        raise BadText(number) from None


def read_deed(forum, line):
    """The deed of a line. Raises BadText."""
    # A word that is no digit becomes -1 here, which every docket refuses as a number and as a grade.
    match line.split(" "):
        case ["decide", word, figure]:
            return "decide", forum.read_case(word), digit_value(figure)
        case ["strike", figure]:
            return "strike", digit_value(figure)
        case ["regrade", figure, other]:
            return "regrade", digit_value(figure), digit_value(other)
        case ["undo"]:
            return ("undo",)
        case ["redo"]:
            return ("redo",)
    raise BadText(1)
