"""Suits with several issues, and rulings that decide their parts as a whole (points 58 to 60)."""

from settledcases.errors import NoCase, NoForum, NoGrade, OtherForum, TooLarge
from settledcases.forum import Forum, same_forum, split_case


class Suit:
    """One to three issues, each with a forum."""

    FORUMS = 3

    def __init__(self, forums):
        if not 1 <= len(forums) <= Suit.FORUMS:
            raise NoForum("a suit has 1 to 3 forums")
        self.forums = tuple(forums)

    def __contains__(self, x):
        if len(x) != len(self.forums):
            return False
        fitting = [part is None or part in forum for part, forum in zip(x, self.forums)]
        return all(fitting) and any([part is not None for part in x])

    def joined_forum(self):
        """The forum with the places of all issues."""
        pro = "".join([forum.pro for forum in self.forums])
        con = "".join([forum.con for forum in self.forums])
        return Forum(pro, con, [top for forum in self.forums for top in forum.tops])

    def joined_case(self, parts):
        """The case of the joined forum with the levels of all parts."""
        self.joined_forum()
        check_parts(self, parts)
        if len(in_play(parts)) < len(parts):
            raise NoCase("an issue is not in play")
        split = [split_case(forum, part) for forum, part in zip(self.forums, parts)]
        return tuple([level for group in zip(*split) for levels in group for level in levels])


class Rulings:
    """Rulings on the parts of a suit. They never change."""

    ROWS = 6

    def __init__(self, suit, rows=()):
        rulings = tuple([(parts, mode, grade) for parts, mode, grade in rows])
        for parts, _, _ in rulings:
            check_parts(suit, parts)
        if any([grade not in (0, 1) for _, _, grade in rulings]):
            raise NoGrade("the grade of a ruling is not 0 or 1")
        if len(rulings) > Rulings.ROWS:
            raise TooLarge("there are at most 6 rulings")
        self.suit = suit
        self.rows = rulings

    def __iter__(self):
        return iter(self.rows)

    def added(self, parts, mode, grade):
        """The rulings with one more at the end."""
        return Rulings(self.suit, self.rows + ((parts, mode, grade),))

    def choice_rows(self):
        """The numbers of the choice rulings, ascending."""
        return tuple([number for number, ruling in enumerate(self.rows) if not is_plain(ruling)])


def check_parts(suit, parts):
    """Raise NoCase if these are not parts of the suit."""
    if parts not in suit:
        raise NoCase("these are not parts of the suit")


def in_play(parts):
    """The numbers of the issues that are in play in the parts, ascending."""
    return [issue for issue, part in enumerate(parts) if part is not None]


def is_plain(ruling):
    """Whether every part in play has the grade of the ruling."""
    _, mode, grade = ruling
    return grade == 1 if mode == "all" else grade == 0


def check_same_suit(one, other):
    """Raise OtherForum if these are not the same suit."""
    same = [same_forum(a, b) for a, b in zip(one.forums, other.forums)]
    if len(one.forums) != len(other.forums) or not all(same):
        raise OtherForum("the suits differ")
