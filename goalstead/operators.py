"""Operators: the language's own, and those that a text tells."""

from goalstead.bounds import OPERATORS
from goalstead.errors import BadOperator
from goalstead.signs import is_kept

OWN = (
    (9, "none", "such"),
    (8, "right", "and"),
    (7, "none", "in"),
    (7, "ahead", "not"),
    (6, "none", "="),
    (6, "none", "is"),
    (6, "none", "<"),
    (6, "none", "=<"),
    (6, "none", "=="),
    (6, "none", "=/="),
    (6, "none", ".."),
    (4, "left", "+"),
    (4, "left", "-"),
    (3, "left", "*"),
    (3, "left", "//"),
    (3, "left", "mod"),
)


def own():
    """The language's own operators."""
    return list(OWN)


def let_by(operators):
    """Refuses operators of which one may not be told behind those ahead of it."""
    earlier = own()
    for at, operator in enumerate(operators):
        if at >= OPERATORS or _is_barred(operator, earlier):
            raise BadOperator(at)
        earlier.append(operator)


def _is_barred(operator, earlier):
    """Whether an operator may not be told behind these."""
    level, side, name = operator
    if is_kept(name):
        return True
    for other_level, other_side, other_name in earlier:
        if (side == "ahead") != (other_side == "ahead"):
            continue
        if name == other_name:
            return True
        if level == other_level and side != other_side:
            return True
    return False


class OperatorTable:
    """Operators, looked up by name, and which levels they let stand by them."""

    def __init__(self, operators):
        self.between = {}
        self.ahead = {}
        for level, side, name in operators:
            if side == "ahead":
                self.ahead[name] = level
            else:
                self.between[name] = (level, side)

    def has(self, name):
        return name in self.between or name in self.ahead

    def level_of(self, pattern):
        """The level of a pattern without brackets round it."""
        if self.is_between(pattern):
            return self.between[pattern[0]][0]
        if self.is_ahead(pattern):
            return self.ahead[pattern[0]]
        return 0

    def is_between(self, pattern):
        """Whether a pattern is that of an operator between two parts."""
        return isinstance(pattern, tuple) and len(pattern) == 3 and pattern[0] in self.between

    def is_ahead(self, pattern):
        """Whether a pattern is that of an operator ahead of one part."""
        return isinstance(pattern, tuple) and len(pattern) == 2 and pattern[0] in self.ahead

    def left_bound(self, name):
        """The greatest level of a left part of an operator that stands between."""
        level, side = self.between[name]
        return level if side == "left" else level - 1

    def right_bound(self, name):
        """The greatest level of a right part of an operator that stands between."""
        level, side = self.between[name]
        return level if side == "right" else level - 1

    def ahead_bound(self, name):
        """The greatest level of the part of an operator that stands ahead."""
        return self.ahead[name] - 1
