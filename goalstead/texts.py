"""Texts that a desk may hold: read and looked at when they are made, and never changed."""

from goalstead.bounds import LINES
from goalstead.errors import NoRoom
from goalstead.program import Program
from goalstead.reader import read_text


class Text:
    """The lines of a text, its operators, its rows, and the program that they make."""

    def __init__(self, lines):
        if len(lines) > LINES:
            raise NoRoom()
        self.all_lines = list(lines)
        self.operators, self.rows = read_text(self.all_lines)
        self.program = Program(self.rows)

    def tells_of(self, title):
        """All that a text tells of a relation: its clauses, its modes, whether it is tabled."""
        clauses = [self.program.clause(line) for line in self.program.clauses(title)]
        return clauses, self.program.modes(title), self.program.is_tabled(title)
