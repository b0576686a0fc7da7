"""Neighbors of a case, and chains from one case to another (point 15)."""

from settledcases.forum import check_case
from settledcases.order import at_least


def stronger_by_one(forum, case):
    """All cases that are stronger by one than the case, ascending."""
    return moved_by(forum, case, 1)


def weaker_by_one(forum, case):
    """All cases that are weaker by one than the case, ascending."""
    return moved_by(forum, case, -1)


def moved_by(forum, case, change):
    """All cases that differ from the case by the change at exactly one place, ascending."""
    check_case(forum, case)
    moved = [shifted(case, place, change) for place in range(len(case))]
    return sorted([other for other in moved if other in forum])


def shifted(case, place, change):
    """The levels of the case, with the change at this place."""
    return case[:place] + (case[place] + change,) + case[place + 1:]


def shortest_chain(forum, low, high):
    """The shortest chain from low to high, or an empty list if low is not beneath high."""
    check_case(forum, low)
    check_case(forum, high)
    if not at_least(high, low):
        return []
    chain = [low]
    for place, level in enumerate(high):
        while chain[-1][place] < level:
            chain.append(shifted(chain[-1], place, 1))
    return chain
