"""What falls and what is restored from day to day (point 77)."""

from settledcases.book import settled
from settledcases.courts import Diary, check_court
from settledcases.forum import check_case
from settledcases.standing import binding, standing


def turns(diary):
    """Yields for each day the earlier days whose decisions fall, and those whose decisions are restored."""
    before = ()
    for day in range(len(diary.entries)):
        after = standing(diary_up_to(diary, day))
        fallen = [earlier for earlier in before if earlier not in after]
        restored = [earlier for earlier in after if earlier not in before and earlier < day]
        yield tuple(fallen), tuple(restored)
        before = after


def diary_up_to(diary, day):
    """The diary with the entries of this day and of all days before it."""
    return Diary(diary.courts, diary.entries[:day + 1])


def history(diary, court, case):
    """For each day the grade that binds the court for the case, or None."""
    # A diary without entries has no binding book that would raise these errors.
    check_case(diary.courts.forum, case)
    check_court(diary.courts, court)
    return [settled(binding(diary_up_to(diary, day), court), case) for day in range(len(diary.entries))]
