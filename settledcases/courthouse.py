"""The desk that knows the lines of all desks for dockets (points 95 to 97)."""

from settledcases.askdesk import AskDesk
from settledcases.falldesk import FallDesk
from settledcases.ladderdesk import LadderDesk


class Courthouse(FallDesk, LadderDesk, AskDesk):
    """Answers each line as the desk whose line it is."""

    def reply(self, words):
        """The answer to the line of these words."""
        return super().reply(words)
