"""Forums: what counts in a dispute, and the cases that there can be (points 5 to 9)."""

from settledcases.errors import BadText, NoCase, NoForum, NoRow

DIGITS = "0123456789"


class Forum:
    """Reasons for the claimant (pro), reasons against (con), and scales with their tops."""

    STEPS = 5
    TOPS = 3

    def __init__(self, pro="", con="", tops=()):
        check_places(pro, con, tops)
        self.pro = pro
        self.con = con
        self.tops = tuple(tops)
        self.limits = (1,) * len(pro + con) + self.tops
        self.steps = steps_within(self.limits)
        self._cases = cases_within(self.limits)
        self._numbers = {case: number for number, case in enumerate(self._cases)}

    def __iter__(self):
        return iter(self._cases)

    def __contains__(self, x):
        return x in self._numbers

    @property
    def text(self):
        """The written form of the forum."""
        digits = "".join([str(top) for top in self.tops])
        return f"{self.pro}/{self.con}/{digits}"

    @property
    def size(self):
        """The number of cases."""
        return len(self._cases)

    @property
    def weakest_case(self):
        """The case with the level 0 at every place."""
        return self._cases[0]

    @property
    def strongest_case(self):
        """The case with the limit at every place."""
        return self._cases[-1]

    def number(self, case):
        """The number of the case among all cases in ascending order."""
        check_case(self, case)
        return self._numbers[case]

    def reaches(self, case, step):
        """Whether the case reaches the step with this number."""
        check_case(self, case)
        if not 0 <= step < len(self.steps):
            raise NoRow("there is no step with this number")
        place, level = self.steps[step]
        return case[place] >= level

    def word(self, case):
        """The written form of the case."""
        check_case(self, case)
        for_claimant, against, amounts = split_case(self, case)
        present_pro = [letter for letter, level in zip(self.pro, for_claimant) if level == 1]
        # A reason against the claimant that is present is the lower level.
        present_con = [letter for letter, level in zip(self.con, against) if level == 0]
        digits = [str(amount) for amount in amounts]
        return "/".join(["".join(present_pro), "".join(present_con), "".join(digits)])

    def read_case(self, text):
        """The case with this written form."""
        for case in self._cases:
            if self.word(case) == text:
                return case
        raise BadText(1)

    @classmethod
    def read(cls, text):
        """The forum with this written form."""
        fields = text.split("/")
        if len(fields) != 3:
            raise BadText(1)
        # What is no digit becomes -1 here, which no forum accepts as a top.
        tops = [digit_value(character) for character in fields[2]]
        try:
            return cls(fields[0], fields[1], tops)
        except NoForum:
            raise BadText(1) from None


def check_places(pro, con, tops):
    """Raise NoForum if these do not make a forum."""
    letters = pro + con
    if any([not "a" <= letter <= "z" for letter in letters]):
        raise NoForum("a reason is not a lowercase letter")
    if len(set(letters)) < len(letters):
        raise NoForum("a letter occurs twice")
    if any([not 1 <= top <= Forum.TOPS for top in tops]):
        raise NoForum("the top of a scale is out of range")
    if not 1 <= len(letters) + sum(tops) <= Forum.STEPS:
        raise NoForum("the number of steps is out of range")


def steps_within(limits):
    """All steps of a forum with these limits, in ascending order."""
    return tuple([(place, level) for place, limit in enumerate(limits) for level in range(1, limit + 1)])


def cases_within(limits):
    """All cases of a forum with these limits, in ascending order."""
    cases = [()]
    for limit in limits:
        cases = [case + (level,) for case in cases for level in range(limit + 1)]
    return tuple(cases)


def split_case(forum, case):
    """The levels at the places of pro, at those of con, and on the scales."""
    first_con = len(forum.pro)
    first_scale = first_con + len(forum.con)
    return case[:first_con], case[first_con:first_scale], case[first_scale:]


def check_case(forum, case):
    """Raise NoCase if this is not a case of the forum."""
    if case not in forum:
        raise NoCase("this is not a case of the forum")


def same_forum(one, other):
    """Whether two forums are the same forum."""
    return (one.pro, one.con, one.tops) == (other.pro, other.con, other.tops)


def digit_value(word):
    """The number that a single digit writes, or -1 for every other word."""
    return DIGITS.find(word) if len(word) == 1 else -1
