"""Weights that keep a book, or a balance against them (points 48, 50 and 54)."""

from settledcases.book import check_yes_no
from settledcases.kinds import WeighingJudge
from settledcases.order import at_least
from settledcases.papers import Balance

# A condition is a pair: one factor for each step, and for each row the number of
# times that it is in the condition. It says that the sum of the factors times the
# weights is greater than 0.


def weighing_keeper(book):
    """A weighing judge that keeps the book or, if there is none, a balance that holds against it."""
    check_yes_no(book)
    rounds = [strictest(first_conditions(book))]
    for step in range(len(book.forum.steps)):
        rounds.append(without_step(rounds[-1], step))
    if rounds[-1]:
        _, times = rounds[-1][0]
        return Balance([(row, count) for row, count in enumerate(times) if count > 0])
    return judge_by(book, chosen_weights(book.forum, rounds))


def first_conditions(book):
    """The conditions that each won row weighs more than each lost row."""
    numbers = range(len(book.rows))
    pairs = [(won, lost) for won in numbers for lost in numbers if book.rows[won][1] > book.rows[lost][1]]
    return [(more_steps(book, won, lost), times_of(book, won, lost)) for won, lost in pairs]


def more_steps(book, won, lost):
    """For each step, 1 if only the won row reaches it, -1 if only the lost row does, else 0."""
    steps = range(len(book.forum.steps))
    return tuple([reach(book, won, step) - reach(book, lost, step) for step in steps])


def reach(book, row, step):
    """1 if the row reaches the step, otherwise 0."""
    return 1 if book.forum.reaches(book.rows[row][0], step) else 0


def times_of(book, won, lost):
    """For each row, 1 if it is one of the two, else 0."""
    return tuple([1 if row in (won, lost) else 0 for row in range(len(book.rows))])


def without_step(conditions, step):
    """Conditions that can be met without this step exactly if the given ones can be met with it."""
    free = [condition for condition in conditions if condition[0][step] == 0]
    gains = [condition for condition in conditions if condition[0][step] > 0]
    losses = [condition for condition in conditions if condition[0][step] < 0]
    alone = [(without_factor(factors, step), times) for factors, times in losses]
    joint = [balanced(gain, loss, step) for gain in gains for loss in losses]
    return strictest(free + alone + joint)


def without_factor(factors, step):
    """The factors with 0 for this step. For a loss this is met if the condition is, as no weight is below 0."""
    return factors[:step] + (0,) + factors[step + 1:]


def balanced(gain, loss, step):
    """The sum of multiples of two conditions in which the factor of the step is 0."""
    many, few = -loss[0][step], gain[0][step]
    factors = tuple([many * one + few * other for one, other in zip(gain[0], loss[0])])
    return factors, tuple([many * one + few * other for one, other in zip(gain[1], loss[1])])


def strictest(conditions):
    """The conditions without those that follow from another one."""
    kept = []
    for condition in conditions:
        if not any([at_least(condition[0], other[0]) for other in kept]):
            kept = [other for other in kept if not at_least(other[0], condition[0])] + [condition]
    return kept


def chosen_weights(forum, rounds):
    """Weights that meet the conditions of the first round, if there is no condition in the last one."""
    weights = [0] * len(forum.steps)
    for step in reversed(range(len(forum.steps))):
        share, scale = weight_between(rounds[step], weights, step)
        weights = [weight * scale for weight in weights]
        weights[step] = share
    return weights


def weight_between(conditions, weights, step):
    """A weight of the step, as a fraction, with which the weights of the later steps meet the conditions."""
    # The fraction 1 over 0 stands for no upper bound. The sum of the numerators over
    # the sum of the denominators lies strictly between any two fractions.
    low, high = (0, 1), (1, 0)
    for factors, _ in conditions:
        rest = sum([factor * weight for factor, weight in zip(factors, weights)])
        factor = factors[step]
        if factor > 0 and -rest * low[1] > low[0] * factor:
            low = (-rest, factor)
        if factor < 0 and rest * high[1] < high[0] * -factor:
            high = (rest, -factor)
    return low[0] + high[0], low[1] + high[1]


def judge_by(book, weights):
    """The weighing judge with these weights and the least bar that no lost row reaches."""
    unbarred = WeighingJudge(book.forum, weights, 0)
    lost = [unbarred.weight_of(case) for case, grade in book if grade == 0]
    return WeighingJudge(book.forum, weights, max(lost, default=-1) + 1)
