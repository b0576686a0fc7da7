"""Judges who decide by one step, by ranked grounds or by weights (points 46 to 48)."""

from settledcases.errors import NoJudge, NoRow
from settledcases.forum import check_case
from settledcases.judges import Judge

KINDS = ("single", "ranked", "weighing", "rising")


class SingleJudge(Judge):
    """Gives a case the grade 1 exactly if it reaches the step."""

    KIND = "single"

    def __init__(self, forum, step):
        Judge.__init__(self, forum, 1)
        check_steps(forum, [step])
        self.step = step

    def grade_of(self, case):
        """1 if the case reaches the step, otherwise 0."""
        return 1 if self.forum.reaches(case, self.step) else 0


class RankedJudge(Judge):
    """Gives a case the side of the first ground that speaks for it, or the default."""

    KIND = "ranked"

    def __init__(self, forum, grounds, default):
        Judge.__init__(self, forum, 1)
        pairs = tuple([(step, side) for step, side in grounds])
        steps = [step for step, _ in pairs]
        check_steps(forum, steps)
        if len(set(steps)) < len(steps):
            raise NoJudge("a step is in two grounds")
        if default not in (0, 1) or any([side not in (0, 1) for _, side in pairs]):
            raise NoJudge("a side or the default is not 0 or 1")
        self.grounds = pairs
        self.default = default

    def grade_of(self, case):
        """The side of the first ground that speaks for the case, or the default."""
        number = self.ground_for(case)
        return self.default if number is None else self.grounds[number][1]

    def ground_for(self, case):
        """The number of the first ground that speaks for the case, or None."""
        check_case(self.forum, case)
        for number, ground in enumerate(self.grounds):
            if ground_speaks(self.forum, ground, case):
                return number
        return None


class WeighingJudge(Judge):
    """Gives a case the grade 1 exactly if the steps that it reaches weigh at least the bar."""

    KIND = "weighing"

    def __init__(self, forum, weights, bar):
        Judge.__init__(self, forum, 1)
        if len(weights) != len(forum.steps):
            raise NoJudge("there is not one weight for each step")
        if any([weight < 0 for weight in weights]):
            raise NoJudge("a weight is below 0")
        self.weights = tuple(weights)
        self.bar = bar

    def grade_of(self, case):
        """1 if the weight of the case is at least the bar, otherwise 0."""
        return 1 if self.weight_of(case) >= self.bar else 0

    def weight_of(self, case):
        """The sum of the weights of the steps that the case reaches."""
        return sum([weight for step, weight in enumerate(self.weights) if self.forum.reaches(case, step)])


def check_steps(forum, steps):
    """Raise NoRow if one of these is not the number of a step."""
    if any([not 0 <= step < len(forum.steps) for step in steps]):
        raise NoRow("there is no step with this number")


def ground_speaks(forum, ground, case):
    """Whether the ground speaks for the case."""
    step, side = ground
    return forum.reaches(case, step) == (side == 1)
