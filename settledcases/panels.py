"""Panels, with one judge for each issue of a suit (points 60 and 61)."""

from settledcases.book import check_yes_no
from settledcases.errors import NoJudge, OtherForum
from settledcases.forum import same_forum
from settledcases.suits import check_parts, check_same_suit


class Panel:
    """Decides every part by the judge of its issue, and the whole by the mode."""

    def __init__(self, suit, judges):
        for judge in judges:
            check_yes_no(judge)
        if any([not same_forum(judge.forum, forum) for judge, forum in zip(judges, suit.forums)]):
            raise OtherForum("the forums of a judge and of its issue differ")
        if len(judges) != len(suit.forums):
            raise NoJudge("there is not one judge for each issue")
        self.suit = suit
        self.judges = tuple(judges)

    def __call__(self, parts, mode):
        check_parts(self.suit, parts)
        return whole_grade(self.judges, parts, mode)

    def first_break(self, rulings):
        """The number of the first ruling that the panel decides with the other grade, or None."""
        check_same_suit(self.suit, rulings.suit)
        for number, (parts, mode, grade) in enumerate(rulings):
            if whole_grade(self.judges, parts, mode) != grade:
                return number
        return None

    def keeps(self, rulings):
        """Whether the panel decides every ruling with its grade."""
        return self.first_break(rulings) is None


def whole_grade(judges, parts, mode):
    """The grade of the whole, if each part in play gets the grade of the judge of its issue."""
    grades = [judge.grade_of(part) for judge, part in zip(judges, parts) if part is not None]
    return min(grades) if mode == "all" else max(grades)
