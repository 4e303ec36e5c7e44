"""The reading of pieces."""

from goalstead.bounds import LEVELS, PARTS
from goalstead.errors import BadShape
from goalstead.signs import DIGITS, is_kept, is_unknown, is_word


def read_pieces(pieces, table):
    """The pattern of the one reading that all pieces have together."""
    return Reading(pieces, table).whole()


class Reading:
    """Pieces that are read from the left.

    No step is ever taken back: a reading's level is never below that of its
    parts, so what stands next tells alone whether a part goes on.
    """

    def __init__(self, pieces, table):
        self.pieces = pieces
        self.table = table
        self.at = 0

    def whole(self):
        pattern, _ = self.part(LEVELS)
        if self.at < len(self.pieces):
            raise BadShape(0)
        return pattern

    def part(self, most):
        """The longest part of a level of at most `most` that begins here, with its level."""
        left, level = self.first_part(most)
        while self.goes_on(level, most):
            name = self.take()
            right, _ = self.part(self.table.right_bound(name))
            left = (name, left, right)
            level, _ = self.table.between[name]
        return left, level

    def goes_on(self, level, most):
        """Whether an operator stands next that takes a left part of this level."""
        if not self.is_next(self.table.between):
            return False
        name = self.pieces[self.at]
        return level <= self.table.left_bound(name) and self.table.between[name][0] <= most

    def first_part(self, most):
        """The part that begins here, up to the first operator between."""
        piece = self.take()
        if piece in self.table.ahead:
            if self.table.ahead[piece] > most:
                raise BadShape(0)
            part, _ = self.part(self.table.ahead_bound(piece))
            return (piece, part), self.table.ahead[piece]
        if piece == "(":
            pattern, _ = self.part(LEVELS)
            if self.take() != ")":
                raise BadShape(0)
            return pattern, 0
        return self.plain_part(piece), 0

    def plain_part(self, piece):
        """The number, unknown, word or named tuple that begins with this piece."""
        if piece[0] in DIGITS:
            return int(piece)
        if piece[0] == "~":
            return -int(piece[1:])
        if is_unknown(piece):
            return piece
        if not is_word(piece) or is_kept(piece) or self.table.has(piece):
            raise BadShape(0)
        if self.is_next(("(",)):
            parts = self.parts_in_brackets()
            return (piece, *parts)
        return piece

    def parts_in_brackets(self):
        """The parts of a named tuple, from its opening bracket to its closing one."""
        parts = []
        ending = self.take()
        while ending != ")":
            part, _ = self.part(LEVELS)
            parts.append(part)
            ending = self.take()
            if ending not in (",", ")") or len(parts) > PARTS:
                raise BadShape(0)
        return parts

    def is_next(self, pieces):
        """Whether one of these pieces stands next."""
        return self.at < len(self.pieces) and self.pieces[self.at] in pieces

    def take(self):
        if self.at == len(self.pieces):
            raise BadShape(0)
        self.at += 1
        return self.pieces[self.at - 1]
