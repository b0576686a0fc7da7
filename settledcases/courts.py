"""Courts, and diaries of what they do from day to day (points 68 and 69)."""

from settledcases.errors import Closed, NoCourt, NoGrade, TooLarge
from settledcases.forum import check_case


class Courts:
    """Courts that decide cases of one forum. They never change."""

    COURTS = 6

    def __init__(self, forum, parents, firm):
        check_parents(parents)
        check_firm(firm)
        if len(firm) != len(parents):
            raise NoCourt("it is not said of each court whether it is firm")
        self.forum = forum
        self.parents = tuple(parents)
        self.firm = tuple(firm)

    def line_of(self, court):
        """The line of the court, from court 0 to the court itself."""
        check_court(self, court)
        line = [court]
        while line[0] != 0:
            line.insert(0, self.parents[line[0]])
        return line


def check_parents(parents):
    """Raise NoCourt if these are not the parents of 1 to 6 courts."""
    if not 1 <= len(parents) <= Courts.COURTS:
        raise NoCourt("there are 1 to 6 courts")
    if parents[0] != -1:
        raise NoCourt("court 0 has no parent")
    if any([not 0 <= parent < court for court, parent in enumerate(parents) if court > 0]):
        raise NoCourt("a parent is not an earlier court")


def check_firm(firm):
    """Raise NoCourt if an entry is not 0 or 1."""
    if any([entry not in (0, 1) for entry in firm]):
        raise NoCourt("a court is firm or not")


def check_court(courts, court):
    """Raise NoCourt if there is no court with this number."""
    if not 0 <= court < len(courts.parents):
        raise NoCourt("there is no court with this number")


class Diary:
    """What the courts do, one entry a day. A diary never changes."""

    ENTRIES = 10

    def __init__(self, courts, entries=()):
        days = tuple([tuple(entry) for entry in entries])
        decisions = [entry for entry in days if entry[0] == "decide"]
        for _, _, case, _ in decisions:
            check_case(courts.forum, case)
        if any([grade not in (0, 1) for _, _, _, grade in decisions]):
            raise NoGrade("the grade of a decision is not 0 or 1")
        for entry in days:
            check_court(courts, entry[1])
        if len(days) > Diary.ENTRIES:
            raise TooLarge("a diary has at most 10 entries")
        check_open(days)
        self.courts = courts
        self.entries = days

    def __iter__(self):
        return iter(self.entries)

    def decided(self, court, case, grade):
        """The diary with a decision of the court as one more entry."""
        return Diary(self.courts, self.entries + (("decide", court, case, grade),))

    def closed(self, court):
        """The diary with a closing of the court as one more entry."""
        return Diary(self.courts, self.entries + (("close", court),))

    def closed_courts(self):
        """The numbers of the closed courts, ascending."""
        return tuple(sorted(closed_in(self.entries)))


def closed_in(entries):
    """The courts that the entries close."""
    return [entry[1] for entry in entries if entry[0] == "close"]


def check_open(entries):
    """Raise Closed with the court of the first entry that belongs to a court closed before it."""
    for day, entry in enumerate(entries):
        if entry[1] in closed_in(entries[:day]):
            raise Closed(entry[1])
