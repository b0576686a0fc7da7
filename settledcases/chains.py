"""The unsettled cases in as few chains as possible (points 86 and 87)."""

from settledcases.book import check_yes_no
from settledcases.order import at_least
from settledcases.settling import unsettled
from settledcases.web import least_cover, most_apart

# In a web in which every case stands on both sides with the price 1, a packing
# gives each case at most one next case, and at most one that it is next to.


def fewest_chains(book):
    """The unsettled cases in as few chains as possible."""
    cases = open_cases(book)
    ones = [1] * len(cases)
    following = {i: j for (i, j), _ in most_apart(ones, ones, pairs_above(cases))}
    behind = list(following.values())
    return [chain_from(cases, following, first) for first in range(len(cases)) if first not in behind]


def open_cases(book):
    """The unsettled cases of the yes-or-no book, ascending."""
    check_yes_no(book)
    return list(unsettled(book))


def pairs_above(cases):
    """The pairs of positions such that the second case is above the first one and is another case."""
    numbers = range(len(cases))
    return [(i, j) for i in numbers for j in numbers if i != j and at_least(cases[j], cases[i])]


def chain_from(cases, following, first):
    """The chain of cases that begins at this position."""
    chain = [cases[first]]
    at = first
    while at in following:
        at = following[at]
        chain.append(cases[at])
    return chain


def widest(book):
    """As many unsettled cases as possible of which none is beneath another one, ascending."""
    cases = open_cases(book)
    ones = [1] * len(cases)
    # A cheapest cover has one entry for each link of the fewest chains, so at least one case
    # of each chain is in it on neither side. No pair joins two such cases.
    lefts, rights = least_cover(ones, ones, pairs_above(cases))
    return [case for at, case in enumerate(cases) if at not in lefts and at not in rights]
