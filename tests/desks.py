"""The forms of the lines of all desks, and what several tests of desks use."""

import random
import re

from settledcases.docket import Docket
from settledcases.errors import BadText, CourtError, NoCommand
from settledcases.forum import Forum
from tests.support import all_cases, sample_rows, word_by_hand

BOOK_FORMS = (
    "decide CASE NUMBER", "strike NUMBER", "regrade NUMBER NUMBER", "undo", "redo", "bounds CASE", "settled CASE",
    "unsettled",
    "quarrels", "least", "spare",
)
FALL_FORMS = BOOK_FORMS + ("overruled", "falls", "changes", "changes high", "price", "even")
LADDER_FORMS = BOOK_FORMS + ("verdict KIND CASE", "opinion CASE", "paper KIND", "check PAPER")
ASK_FORMS = BOOK_FORMS + ("asks", "ask", "width", "duel NUMBER")
COURT_FORMS = ("decide NUMBER CASE NUMBER", "close NUMBER", "settled NUMBER CASE", "told NUMBER CASE",
               "lowest NUMBER CASE NUMBER")

KINDS = ("single", "ranked", "weighing", "rising")
NUMBER = "(0|[1-9][0-9]{0,999})"
PAPER = re.compile(f"quarrel {NUMBER} {NUMBER}|balance( {NUMBER}:{NUMBER})*|(closed|failed)( {NUMBER})*")
SIGNS = " \t/am0123:-+xA"

# Words that are not numbers (point 95), as they stand in a line.
NO_NUMBERS = ("", "00", "01", "007", "-1", "-0", "+1", "1.", "1_0", "0x1", "1e1", "a", "//", "1,", "1" * 1001, "0" * 2,
              "9" * 1001)
# Words that are no written form of a case of the forum ab.
NO_WORDS = ("", "/", "a", "a/", "a///", "ba//", "aa//", "c//", "A//", "//0", "a/b/", "/a/", "0", "(1,0)", "-")


def fits(word, form, words):
    """Whether the word is what the form names in its place; words are the written forms of cases."""
    if form in ("CASE", "PART"):
        return word in words or form == "PART" and word == "-"
    if form == "NUMBER":
        return re.fullmatch(NUMBER, word) is not None
    if form == "KIND":
        return word in KINDS
    if form == "MODE":
        return word in ("all", "any")
    return word == form


def refusal(line, forms, words):
    """NoCommand or BadText, if the line alone is a reason for it (point 95), otherwise None."""
    found = line.split(" ")
    if "check PAPER" in forms and found[0] == "check" and len(found) > 1:
        return None if PAPER.fullmatch(line[len("check "):]) else BadText
    for form in forms:
        places = form.split(" ")
        same = [word == place for word, place in zip(found, places) if place.islower()]
        if len(found) == len(places) and all(same):
            return None if all(fits(word, place, words) for word, place in zip(found, places)) else BadText
    return NoCommand


def outcome(asked):
    """What a call returns, or the class and the fields of its error."""
    try:
        return asked()
    except CourtError as error:
        return type(error), vars(error)


def edits(line):
    """The line with one sign put in, taken out or changed at any place."""
    for at in range(len(line) + 1):
        yield line[:at] + line[at + 1:]
        for sign in SIGNS:
            yield line[:at] + sign + line[at:]
            yield line[:at] + sign + line[at + 1:]


def all_words(forum):
    """The written forms of all cases."""
    return [word_by_hand(forum, case) for case in all_cases(forum)]


def filled(form, forum, source):
    """A line of the form with fitting words."""
    choices = {
        "CASE": all_words(forum), "PART": all_words(forum) + ["-"], "NUMBER": list("0123"), "KIND": KINDS,
        "MODE": ("all", "any"),
        "PAPER": ["quarrel 0 1", "balance 0:1 1:1", "closed 0 1 2", "failed 0 0", "closed"],
    }
    return " ".join(source.choice(choices[place]) if place in choices else place for place in form.split(" "))


def check_forms(case, desk, forms, forum):
    """Checks that lines of each form, and lines that are like them, are refused exactly where they should be."""
    source, words = random.Random(f"{forum.text} {len(forms)}"), all_words(forum)
    for form in forms:
        line = filled(form, forum, source)
        for other in [line, line + " " + line, line.upper(), line + " x"] + list(edits(line)):
            expected, before = refusal(other, forms, words), desk.lines
            found = outcome(lambda: desk.answer(other))
            if expected is BadText:
                case.assertEqual(found, (BadText, {"line": 1}), other)
            elif expected is NoCommand:
                case.assertEqual(found, (NoCommand, {}), other)
            else:
                case.assertTrue(isinstance(found, str) or found[0] not in (BadText, NoCommand), other)
            case.assertEqual(desk.lines, before + (other,) if isinstance(found, str) else before)


def check_order(case, desk, forms, forum):
    """Checks that a bad word comes ahead of all errors of functions, in each place, and that counts of words matter first."""
    source = random.Random(forum.text)
    for form in forms:
        places = form.split(" ")
        wrong = {"CASE": NO_WORDS, "PART": [word for word in NO_WORDS if word != "-"], "NUMBER": NO_NUMBERS,
                 "KIND": ("", "Single", "rising2", "0"),
                 "MODE": ("", "All", "none", "0"), "PAPER": ("", "paper", "quarrel", "quarrel 0", "closed 00", "judge")}
        for at, place in enumerate(places):
            for word in wrong.get(place, ()):
                # All other numbers are as large as they can be, so that the functions would refuse them.
                others = ["9" * 1000 if other == "NUMBER" else filled(other, forum, source) for other in places]
                line = " ".join(others[:at] + [word] + others[at + 1:])
                case.assertEqual(outcome(lambda: desk.answer(line)), (BadText, {"line": 1}), line)


def dockets(forums, tops, counts, seeds):
    """Dockets with sample rows, with quarrels and without."""
    for forum in forums:
        for top in tops:
            for count in counts:
                for seed in range(seeds):
                    docket = Docket(forum, top)
                    docket.attempt([("decide",) + row for row in sample_rows(forum, top, count, seed)])
                    yield docket


DESK_FORUMS = [Forum("a"), Forum("ab"), Forum("a", "m", (2,)), Forum("", "", (3,)), Forum("abc"),
               Forum("b", "", (1, 2)), Forum("acb", "ed")]
