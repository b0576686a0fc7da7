"""The widest rules that a decision can have, and the cases that no row speaks for (point 45)."""

from settledcases.errors import NoGrade
from settledcases.forum import check_case
from settledcases.order import at_least, strongest, weakest


def widest_rules(rules, case, grade):
    """The widest harmless rules for the case and the grade, ascending."""
    check_case(rules.forum, case)
    if grade not in (0, 1):
        raise NoGrade("the grade is not 0 or 1")
    others = [rule for _, rule, other in rules.rows if other != grade]
    if grade == 1:
        return weakest([rule for rule in rules.forum if at_least(case, rule) and not beneath_any(rule, others)])
    return strongest([rule for rule in rules.forum if at_least(rule, case) and not above_any(rule, others)])


def beneath_any(rule, others):
    """Whether the rule is beneath one of the others."""
    return any([at_least(other, rule) for other in others])


def above_any(rule, others):
    """Whether the rule is above one of the others."""
    return any([at_least(rule, other) for other in others])


def free_cases(rules):
    """Yields the cases that no row speaks for, in ascending order."""
    for case in rules.forum:
        if not rules.speaking(case):
            yield case
