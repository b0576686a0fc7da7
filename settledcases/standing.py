"""Which decisions beat which, which of them stand, and what binds a court (points 70 to 72)."""

from settledcases.book import Book, quarrel_in
from settledcases.errors import NoRow


def decisions_in(entries):
    """For the day of each decision among the entries, its court, its case and its grade."""
    return {day: entry[1:] for day, entry in enumerate(entries) if entry[0] == "decide"}


def beats(diary, a, b):
    """Whether the decision of day a beats the decision of day b."""
    decisions = decisions_in(diary.entries)
    check_day(decisions, a)
    check_day(decisions, b)
    return beats_among(diary.courts, decisions, a, b)


def check_day(decisions, day):
    """Raise NoRow if this is not the day of a decision."""
    if day not in decisions:
        raise NoRow("this is not the day of a decision")


def beats_among(courts, decisions, a, b):
    """Whether the first of two of the decisions beats the second one."""
    court, case, grade = decisions[a]
    other_court, other_case, other_grade = decisions[b]
    one, other = (case, grade), (other_case, other_grade)
    if not quarrel_in(one, other) and not quarrel_in(other, one):
        return False
    if court != other_court:
        return court in courts.line_of(other_court)
    return a < b if courts.firm[court] == 1 else a > b


def standing_among(courts, decisions):
    """The days of those of the decisions that stand, ascending."""
    days = []
    for day in taking_order(courts, decisions):
        if not any([beats_among(courts, decisions, taken, day) for taken in days]):
            days.append(day)
    return tuple(sorted(days))


def taking_order(courts, decisions):
    """The days of the decisions in an order in which nothing is beaten by what comes later."""
    order = []
    for court, firm in enumerate(courts.firm):
        days = sorted([day for day in decisions if decisions[day][0] == court])
        order.extend(days if firm == 1 else days[::-1])
    return order


def standing(diary):
    """The days of the decisions that stand, ascending."""
    return standing_among(diary.courts, decisions_in(diary.entries))


def beater(diary, day):
    """The first day whose decision stands and beats that of this day, or None if that one stands."""
    decisions = decisions_in(diary.entries)
    check_day(decisions, day)
    beating = [other for other in standing(diary) if beats_among(diary.courts, decisions, other, day)]
    return beating[0] if beating else None


def binding(diary, court):
    """The yes-or-no book of the standing decisions of all courts on the line of the court."""
    return standing_book(diary, diary.courts.line_of(court))


def standing_book(diary, chosen):
    """The yes-or-no book of the standing decisions of the chosen courts, in the order of the days."""
    decisions = [decisions_in(diary.entries)[day] for day in standing(diary)]
    return Book(diary.courts.forum, 1, [(case, grade) for court, case, grade in decisions if court in chosen])
