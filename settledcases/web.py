"""Webs: cheapest covers of their pairs, and greatest packings (points 29 and 30)."""

from settledcases.errors import NoPrice, NoRow

LEAST_PRICE = 1
GREATEST_PRICE = 99


class Web:
    """The prices of two sides and the pairs that join them. A web never changes."""

    def __init__(self, left, right, pairs):
        if any([not (0 <= i < len(left) and 0 <= j < len(right)) for i, j in pairs]):
            raise NoRow("a pair joins what is not on its side")
        check_prices(left)
        check_prices(right)
        self.left = tuple(left)
        self.right = tuple(right)
        self.pairs = tuple(sorted({(i, j) for i, j in pairs}))
        self.rights_of = [[j for i, j in self.pairs if i == at] for at in range(len(left))]
        self.lefts_of = [[i for i, j in self.pairs if j == at] for at in range(len(right))]


def check_prices(prices):
    """Raise NoPrice if one of the prices is out of range."""
    if any([not LEAST_PRICE <= price <= GREATEST_PRICE for price in prices]):
        raise NoPrice("a price is out of range")


def least_cover(left, right, pairs, *, high=False):
    """The low cover, or the high cover, as the chosen lefts and the chosen rights."""
    web = Web(left, right, pairs)
    if high:
        # The high cover is the low cover of the web whose sides have changed places.
        rights, lefts = low_cover(Web(web.right, web.left, [(j, i) for i, j in web.pairs]))
        return lefts, rights
    return low_cover(web)


def low_cover(web):
    """The low cover as the chosen lefts and the chosen rights."""
    to_left, to_right = reached(web, greatest_counts(web))
    lefts = [i for i in range(len(web.left)) if i not in to_left]
    return tuple(lefts), tuple(sorted(to_right))


def most_apart(left, right, pairs):
    """The pairs with their counts in a packing with the greatest sum, without the counts 0."""
    counts = greatest_counts(Web(left, right, pairs))
    return [(pair, counts[pair]) for pair in counts if counts[pair] > 0]


def greatest_counts(web):
    """The count of each pair, in ascending order, in a packing with the greatest sum."""
    counts = {pair: 0 for pair in web.pairs}
    while True:
        to_left, to_right = reached(web, counts)
        ends = [j for j in to_right if spare_right(web, counts, j) > 0]
        if not ends:
            return counts
        more, less = way_to(ends[0], to_left, to_right)
        start, _ = more[-1]
        room = [spare_left(web, counts, start), spare_right(web, counts, ends[0])]
        amount = min(room + [counts[pair] for pair in less])
        for pair in more:
            counts[pair] += amount
        for pair in less:
            counts[pair] -= amount


def spare_left(web, counts, i):
    """What the counts leave of the price of this left."""
    return web.left[i] - sum([counts[(i, j)] for j in web.rights_of[i]])


def spare_right(web, counts, j):
    """What the counts leave of the price of this right."""
    return web.right[j] - sum([counts[(i, j)] for i in web.lefts_of[j]])


def reached(web, counts):
    """Where each left and each right that can be reached is reached from.

    A way begins at any left with something to spare. It goes from left to right
    along any pair, and from right to left along a pair with a count above 0.
    """
    to_left = {i: None for i in range(len(web.left)) if spare_left(web, counts, i) > 0}
    to_right = {}
    lefts = list(to_left)
    while lefts:
        rights = []
        for i in lefts:
            for j in web.rights_of[i]:
                if j not in to_right:
                    to_right[j] = i
                    rights.append(j)
        lefts = []
        for j in rights:
            for i in web.lefts_of[j]:
                if i not in to_left and counts[(i, j)] > 0:
                    to_left[i] = j
                    lefts.append(i)
    return to_left, to_right


def way_to(end, to_left, to_right):
    """The pairs whose counts grow and those whose counts shrink on the way to this right."""
    more = []
    less = []
    j = end
    while j is not None:
        i = to_right[j]
        more.append((i, j))
        j = to_left[i]
        if j is not None:
            less.append((i, j))
    return more, less
