"""The errors of the program. Where several apply, the one that stands first here is raised (point 4)."""


class CourtError(ValueError):
    """The base class of all errors that the program raises."""


class NoForum(CourtError):
    """This is not a forum."""


class BadText(CourtError):
    """A text is not a written form; line is the number of its first bad line."""

    def __init__(self, line):
        CourtError.__init__(self, f"line {line} is bad")
        self.line = line


class NotYesNo(CourtError):
    """The top is not 1."""


class OtherForum(CourtError):
    """Two forums or two tops differ that should be the same."""


class NoCase(CourtError):
    """This is not a case of the forum."""


class NoGrade(CourtError):
    """A top, a grade or a threshold is out of range."""


class NoRow(CourtError):
    """There is no row or step with this number, or not one value for each row."""


class NoPrice(CourtError):
    """These are not the prices of the rows or of the sides."""


class NoRule(CourtError):
    """A rule is on the wrong side of its case."""


class NoCourt(CourtError):
    """There is no such court."""


class NoJudge(CourtError):
    """This does not make a judge."""


class TooLarge(CourtError):
    """There are too many rows, cases or entries."""


class Unkept(CourtError):
    """No judge of some kind keeps what was decided."""


class AtOdds(Unkept):
    """A book has quarrels; low and high are the row numbers of the first one."""

    def __init__(self, low, high):
        Unkept.__init__(self, f"the rows {low} and {high} quarrel")
        self.low = low
        self.high = high


class NoKeeper(Unkept):
    """No judge of the kind keeps the book."""

    def __init__(self, kind):
        Unkept.__init__(self, f"no {kind} judge keeps the book")
        self.kind = kind


class NoPanel(Unkept):
    """No panel keeps the rulings."""


class Bound(CourtError):
    """A decision goes against the earlier row with the number row."""

    def __init__(self, row):
        CourtError.__init__(self, f"row {row} stands against it")
        self.row = row


class Closed(CourtError):
    """An entry belongs to a court that was closed before."""

    def __init__(self, court):
        CourtError.__init__(self, f"court {court} is closed")
        self.court = court


class Finished(CourtError):
    """No case is unsettled any more."""


class NoRung(CourtError):
    """There is no next rung on the ladder of judges."""


class NothingToUndo(CourtError):
    """No deed can be undone."""


class NothingToRedo(CourtError):
    """No deed can be done again."""


class NoCommand(CourtError):
    """The desk knows no line of this form."""
