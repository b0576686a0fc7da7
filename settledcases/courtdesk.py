"""Desks for courts and their diary (points 95 and 96)."""

from settledcases.book import settled
from settledcases.courts import Diary
from settledcases.desk import Desk, read_number, shown, spaced
from settledcases.standing import binding, standing
from settledcases.telling import lowest_court, told


class CourtDesk(Desk):
    """Adds days to the diary of the courts, and says what they have decided."""

    def __init__(self, courts):
        Desk.__init__(self)
        self.diary = Diary(courts)

    def reply(self, words):
        """The answer to the line of these words."""
        diary = self.diary
        forum = diary.courts.forum
        match words:
            case ["decide", court, word, grade]:
                self.diary = diary.decided(read_number(court), forum.read_case(word), read_number(grade))
            case ["close", court]:
                self.diary = diary.closed(read_number(court))
            case ["settled", court, word]:
                return bound_word(diary, read_number(court), forum.read_case(word))
            case ["told", court, word]:
                return told(diary, read_number(court), forum.read_case(word))
            case ["lowest", court, word, grade]:
                found = lowest_court(diary, read_number(court), forum.read_case(word), read_number(grade))
                return shown(found, "none")
            case _:
                return super().reply(words)
        return spaced(standing(self.diary))


def bound_word(diary, court, case):
    """The grade that the binding book of the court settles for the case, or unsettled."""
    return shown(settled(binding(diary, court), case), "unsettled")
