"""Exchanging the two sides of a dispute, and renaming its reasons (points 16 to 18)."""

from settledcases.book import Book
from settledcases.errors import NoForum
from settledcases.forum import Forum, check_case, split_case
from settledcases.judges import Judge


def exchanged_forum(forum):
    """The forum in which the reasons for and against have changed places."""
    return Forum(forum.con, forum.pro, forum.tops)


def exchanged_case(forum, case):
    """The case of the exchanged forum in which the same reasons are present."""
    check_case(forum, case)
    for_claimant, against, amounts = split_case(forum, case)
    letters = [1 - level for level in against + for_claimant]
    scales = [top - amount for top, amount in zip(forum.tops, amounts)]
    return tuple(letters + scales)


def exchanged_book(book):
    """The book as it is seen from the other side."""
    rows = [(exchanged_case(book.forum, case), book.top - grade) for case, grade in book]
    return Book(exchanged_forum(book.forum), book.top, rows)


class ExchangedJudge(Judge):
    """The judge as seen from the other side."""

    KIND = "exchanged"

    def __init__(self, judge):
        Judge.__init__(self, exchanged_forum(judge.forum), judge.top)
        self.source = judge

    def grade_of(self, case):
        """The top minus the grade that the judge gives the case of the old forum."""
        return self.top - self.source.grade_of(exchanged_case(self.forum, case))


def renamed_forum(forum, letters):
    """The forum with these letters in place of those of pro and con."""
    if len(letters) != len(forum.pro) + len(forum.con):
        raise NoForum("these are not as many letters as the forum has")
    first_con = len(forum.pro)
    return Forum(letters[:first_con], letters[first_con:], forum.tops)
