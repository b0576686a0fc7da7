"""Reading papers from their written forms (points 49 to 51 and 95)."""

from settledcases.desk import read_number
from settledcases.errors import BadText
from settledcases.papers import Balance, ClosedSet, FailedSteps, Quarrel


def read_paper(text):
    """The paper with this written form."""
    match text.split(" "):
        case ["quarrel", low, high]:
            return Quarrel(read_number(low), read_number(high))
        case ["balance", *pairs]:
            return Balance(read_pairs(pairs))
        case ["closed", *numbers]:
            return ClosedSet(read_numbers(numbers))
        case ["failed", *numbers]:
            return FailedSteps(read_numbers(numbers))
    raise BadText(1)


def read_numbers(words):
    """The numbers with these written forms."""
    return [read_number(word) for word in words]


def read_pairs(words):
    """The row numbers and the counts in the words of a balance."""
    halves = [word.partition(":") for word in words]
    return [(read_number(row), read_number(count)) for row, _, count in halves]
