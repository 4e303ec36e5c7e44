"""Kept questions, reckoned anew where a deed may have made another state of them."""

from goalstead.errors import NoMode
from goalstead.questions import asked


class Kept:
    """A kept question: its pattern, its birth, and what it came to then, None where it was lost."""

    def __init__(self, text, pattern, most, deeds):
        self.pattern = pattern
        self.most = most
        self.found = asked(text.program, pattern, most)
        self.born = deeds

    def state_now(self):
        return ("lost",) if self.found is None else self.found.state_found()

    def reckon(self, text, deeds):
        """Finds the state by a text, behind that many deeds."""
        self.born = deeds
        try:
            self.found = asked(text.program, self.pattern, self.most)
        except NoMode:
            self.found = None

    def is_due(self, before, behind):
        """Whether the state has to be reckoned behind a deed that made one text of another."""
        if self.found is None or self.found.verdict == "open":
            return True
        return any([before.tells_of(title) != behind.tells_of(title) for title in self.found.hangs_on])
