"""Forums, books and plain counting that several tests use."""

import random
from itertools import product

from settledcases.book import Book
from settledcases.forum import Forum

# A number whose figures Python refuses to write out.
HUGE = 10 ** 5000

FORUMS = [
    Forum("a"),
    Forum("", "m"),
    Forum("", "", (1,)),
    Forum("", "", (3,)),
    Forum("ab"),
    Forum("a", "m", (2,)),
    Forum("b", "", (1, 2)),
    Forum("", "zx", (3,)),
    Forum("", "", (2, 3)),
    Forum("ab", "m", (2,)),
    Forum("abcd"),
    Forum("acb", "ed"),
]


def is_beneath(low, high):
    """Whether the case low is beneath the case high, by counting."""
    return len([place for place in range(len(low)) if low[place] > high[place]]) == 0


def all_cases(forum):
    """All cases, ascending, by counting."""
    return list(product(*[range(limit + 1) for limit in forum.limits]))


def word_by_hand(forum, case):
    """The written form of a case, by the words of point 7."""
    letters, count = forum.pro + forum.con, len(forum.pro)
    pro = "".join(letters[k] for k in range(count) if case[k] == 1)
    con = "".join(letters[k] for k in range(count, len(letters)) if case[k] == 0)
    return f"{pro}/{con}/{''.join(str(level) for level in case[len(letters):])}"


def all_quarrels(rows):
    """All quarrels of a list of decisions, ascending."""
    found = []
    for low, (low_case, low_grade) in enumerate(rows):
        for high, (high_case, high_grade) in enumerate(rows):
            if is_beneath(low_case, high_case) and low_grade > high_grade:
                found.append((low, high))
    return found


def rising_maps(forum, top):
    """All judges as dicts from cases to grades: all rising ways of giving grades."""
    cases = all_cases(forum)
    for grades in product(range(top + 1), repeat=len(cases)):
        judge = dict(zip(cases, grades))
        if all(judge[x] <= judge[y] for x in cases for y in cases if is_beneath(x, y)):
            yield judge


def sample_rows(forum, top, count, seed):
    """A list of decisions, always the same one for the same arguments."""
    source = random.Random(f"{forum.text} {top} {count} {seed}")
    cases = all_cases(forum)
    return [(source.choice(cases), source.randint(0, top)) for _ in range(count)]


def sample_books(forums, tops, counts, seeds):
    """Books of all these forums, tops and numbers of rows."""
    for forum in forums:
        for top in tops:
            for count in counts:
                for seed in range(seeds):
                    yield Book(forum, top, sample_rows(forum, top, count, seed))


def quiet_books(forums, tops, counts, seeds):
    """Those of the sample books that have no quarrel."""
    for book in sample_books(forums, tops, counts, seeds):
        if not all_quarrels(book.rows):
            yield book


def plain_prices(count, seed):
    """A list of prices, always the same one for the same arguments."""
    source = random.Random(f"prices {count} {seed}")
    return [source.choice([1, 1, 2, 3, 99]) for _ in range(count)]


def best_regradings(book, prices):
    """The least price and all best regradings, by going through all regradings."""
    cases = [case for case, _ in book.rows]
    old = [grade for _, grade in book.rows]
    prices = prices or [1] * len(cases)
    found = {}
    for grades in product(range(book.top + 1), repeat=len(cases)):
        if not all_quarrels(list(zip(cases, grades))):
            price = sum(prices[k] * abs(grades[k] - old[k]) for k in range(len(cases)))
            found.setdefault(price, []).append(grades)
    return min(found), found[min(found)]


def priced_books():
    """Yes-or-no books with few rows, with prices and without."""
    for book in sample_books(FORUMS[:9], (1,), (0, 1, 2, 4, 6), 3):
        yield book, None
        for seed in (1, 2):
            yield book, plain_prices(len(book.rows), seed)


def all_parts(suit):
    """All parts of a suit, by counting."""
    for parts in product(*[[None] + all_cases(forum) for forum in suit.forums]):
        if any(part is not None for part in parts):
            yield parts


def plain_ruling(ruling):
    """Whether a ruling is plain, by the words of point 60."""
    return ruling[1:] in [("all", 1), ("any", 0)]


def decided_by(judges, parts, mode):
    """The grade of the whole, if the judges are dicts from cases to grades."""
    grades = [judge[part] for judge, part in zip(judges, parts) if part is not None]
    return int(all(grades)) if mode == "all" else int(any(grades))


def keeping_panels(suit, rows):
    """All panels that keep the rulings, as tuples of dicts, by going through all panels."""
    for judges in product(*[list(rising_maps(forum, 1)) for forum in suit.forums]):
        if all(decided_by(judges, parts, mode) == grade for parts, mode, grade in rows):
            yield judges


def sample_rulings(suit, count, seed, modes=("all", "any")):
    """A list of rulings, always the same one for the same arguments."""
    source = random.Random(f"{[forum.text for forum in suit.forums]} {count} {seed} {modes}")
    parts = list(all_parts(suit))
    return [(source.choice(parts), source.choice(modes), source.randint(0, 1)) for _ in range(count)]


def known_by_hand(suit, rows, picks):
    """The known parts, by the words of point 62."""
    known = [[] for _ in suit.forums]
    for number, ruling in enumerate(rows):
        for issue, part in enumerate(ruling[0]):
            if part is not None and (plain_ruling(ruling) or picks[number] == issue):
                known[issue].append((number, part, ruling[2]))
    return known


def part_quarrels_by_hand(suit, rows, picks):
    """The quarrels of the known parts, by the words of point 63."""
    found = []
    for issue, parts in enumerate(known_by_hand(suit, rows, picks)):
        for won in [entry for entry in parts if entry[2] == 1]:
            for lost in [entry for entry in parts if entry[2] == 0]:
                if is_beneath(won[1], lost[1]):
                    found.append((issue, won[0], lost[0]))
    return sorted(found)


def picks_by_hand(suit, rows):
    """All sound picks, by going through all full picks."""
    choices = []
    for ruling in rows:
        in_play = [issue for issue, part in enumerate(ruling[0]) if part is not None]
        choices.append([None] if plain_ruling(ruling) else in_play)
    return [picks for picks in product(*choices) if not part_quarrels_by_hand(suit, rows, picks)]


def line_by_hand(courts, court):
    """The line of a court, by counting."""
    return (line_by_hand(courts, courts.parents[court]) if court > 0 else []) + [court]


def beats_by_hand(courts, entries, a, b):
    """Whether the decision of day a beats that of day b, by the words of point 70."""
    _, court, case, grade = entries[a]
    _, other_court, other_case, other_grade = entries[b]
    won, lost = (case, other_case) if grade == 1 else (other_case, case)
    if grade == other_grade or not is_beneath(won, lost):
        return False
    if court == other_court:
        return a < b if courts.firm[court] else a > b
    return court in line_by_hand(courts, other_court)


def standing_by_hand(courts, entries):
    """The days of the decisions that stand: the only choice of days that fits the words of point 71."""
    days = [day for day, entry in enumerate(entries) if entry[0] == "decide"]
    beating = {day: [other for other in days if beats_by_hand(courts, entries, other, day)] for day in days}
    fitting = []
    for taken in product((True, False), repeat=len(days)):
        chosen = dict(zip(days, taken))
        if all(chosen[day] == (not any(chosen[other] for other in beating[day])) for day in days):
            fitting.append(tuple(day for day in days if chosen[day]))
    assert len(fitting) == 1
    return fitting[0]


def sample_entries(courts, count, seed, closings=4):
    """The entries of a diary, always the same ones for the same arguments; every few days one is a closing."""
    source = random.Random(f"{courts.forum.text} {courts.parents} {courts.firm} {count} {seed} {closings}")
    cases, entries = all_cases(courts.forum), []
    while len(entries) < count:
        closed = [entry[1] for entry in entries if entry[0] == "close"]
        left = [court for court in range(len(courts.parents)) if court not in closed]
        if left and closings and source.randrange(closings) == 0:
            entries.append(("close", source.choice(left)))
        elif left:
            entries.append(("decide", source.choice(left), source.choice(cases), source.randint(0, 1)))
        else:
            break
    return entries
