"""The order of cases by their strength (point 8)."""

from settledcases.forum import check_case


def at_least(x, y):
    """Whether x is at least as strong as y."""
    return all([one >= other for one, other in zip(x, y)])


def join_of(x, y):
    """The case with the greater of the two levels at each place."""
    return tuple([max(one, other) for one, other in zip(x, y)])


def meet_of(x, y):
    """The case with the smaller of the two levels at each place."""
    return tuple([min(one, other) for one, other in zip(x, y)])


def weakest(cases):
    """Those of the cases that have no other one among them beneath, ascending."""
    distinct = sorted(set(cases))
    return [case for case in distinct if [other for other in distinct if at_least(case, other)] == [case]]


def strongest(cases):
    """Those of the cases that have no other one among them above, ascending."""
    distinct = sorted(set(cases))
    return [case for case in distinct if [other for other in distinct if at_least(other, case)] == [case]]


def between(forum, low, high):
    """The cases of the forum above low and beneath high, ascending."""
    check_case(forum, low)
    check_case(forum, high)
    return [case for case in forum if at_least(case, low) and at_least(high, case)]
