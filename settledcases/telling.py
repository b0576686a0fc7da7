"""What a court has told for good, and which court could still decide (points 73 to 76)."""

from settledcases.book import settled
from settledcases.errors import NoGrade
from settledcases.forum import check_case
from settledcases.standing import decisions_in, standing_among, standing_book


def unclosed_line(diary, court):
    """The courts on the line of the court that are not closed, in order."""
    return [other for other in diary.courts.line_of(court) if other not in diary.closed_courts()]


def first_unclosed(diary, court):
    """The first unclosed court of the line of the court, or None."""
    unclosed = unclosed_line(diary, court)
    return unclosed[0] if unclosed else None


def final_book(diary, court):
    """The yes-or-no book of the decisions that stand after any further days, too."""
    return standing_book(diary, final_courts(diary, court))


def final_courts(diary, court):
    """The courts on the line whose standing decisions can no longer fall."""
    line = diary.courts.line_of(court)
    first = first_unclosed(diary, court)
    if first is None:
        return line
    # A firm court never beats its own earlier decisions.
    return line[:line.index(first) + diary.courts.firm[first]]


def told(diary, court, case):
    """Whether the case is won or lost for good, will never be settled, or is not yet settled."""
    check_case(diary.courts.forum, case)
    grade = settled(final_book(diary, court), case)
    if grade is not None:
        return "won" if grade == 1 else "lost"
    return "never" if first_unclosed(diary, court) is None else "not yet"


def lowest_court(diary, court, case, grade):
    """The last unclosed court on the line that could decide so on the next day, or None."""
    check_case(diary.courts.forum, case)
    if grade not in (0, 1):
        raise NoGrade("the grade is not 0 or 1")
    able = [other for other in unclosed_line(diary, court) if would_stand(diary, other, case, grade)]
    return able[-1] if able else None


def would_stand(diary, court, case, grade):
    """Whether this decision of the court would stand if it were the entry of the next day."""
    # A full diary takes no more entries, but the question is asked for it, too.
    entries = diary.entries + (("decide", court, case, grade),)
    return len(diary.entries) in standing_among(diary.courts, decisions_in(entries))
