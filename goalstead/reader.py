"""Lines and texts, read to patterns, goals and rows."""

from goalstead.bounds import GOALS, PARTS, PIECES
from goalstead.errors import BadOperator, BadPiece, BadShape, BadSize
from goalstead.operators import OperatorTable, let_by, own
from goalstead.pieces import first_piece, pieces_of
from goalstead.reading import read_pieces
from goalstead.shapes import is_goal, is_pattern, is_relation
from goalstead.signs import is_mark, is_name, is_word
from goalstead.terms import is_great

LEVEL_PIECES = ("1", "2", "3", "4", "5", "6", "7", "8", "9")
SIDES = ("left", "right", "none", "ahead")
PLACES_PIECES = ("0", "1", "2", "3", "4")
PLACE_SIGNS = {"in": "+", "out": "-"}


def read_term(line, operators, *, most=PIECES):
    """The pattern that a line is."""
    pieces = pieces_of(line, most=most)
    pattern = read_pieces(pieces, _table_of(operators))
    if not is_pattern(pattern):
        raise BadShape(0)
    _measure(pattern)
    return pattern


def read_goal(line, operators, *, most=PIECES):
    """The goal that a line is."""
    pieces = pieces_of(line, most=most)
    goal = _goal_of(pieces, _table_of(operators))
    _measure(goal)
    return goal


def read_line(line, operators, *, most=PIECES):
    """The tuple that a line of a text is."""
    pieces = pieces_of(line, most=most)
    if not pieces:
        return ("blank",)
    if pieces[0] == "op":
        return _op_row(pieces)
    if pieces[0] == "mode":
        return _mode_row(pieces)
    if pieces[0] == "table":
        return _table_row(pieces)
    return _clause_row(pieces, _table_of(operators))


def read_text(lines, *, most=PIECES):
    """The operators of a text, and the tuples of its lines."""
    operators = []
    rows = [None] * len(lines)
    for at, line in enumerate(lines):
        if first_piece(line) == "op":
            rows[at] = _row_at(at, line, [], most)
            operators.append(rows[at][1:])
            _let_by_at(at, operators)
    for at, line in enumerate(lines):
        if rows[at] is None:
            rows[at] = _row_at(at, line, operators, most)
    return operators, rows


def _row_at(at, line, operators, most):
    """The tuple of a text's line; what refuses it tells the line's number."""
    try:
        return read_line(line, operators, most=most)
    except BadPiece as e:
        raise BadPiece(at, e.place) from None
    except BadSize:
        raise BadSize(at) from None
    except BadShape:
        raise BadShape(at) from None


def _let_by_at(at, operators):
    """Refuses operators of which the last one, of that line, is not let by."""
    try:
        let_by(operators)
    except BadOperator:
        raise BadOperator(at) from None


def _table_of(operators):
    return OperatorTable(own() + operators)


def _measure(reading):
    if is_great(reading):
        raise BadSize(0)


def _goal_of(pieces, table):
    goal = read_pieces(pieces, table)
    if not is_goal(goal):
        raise BadShape(0)
    return goal


def _op_row(pieces):
    if len(pieces) != 4:
        raise BadShape(0)
    level, side, name = pieces[1:]
    if level not in LEVEL_PIECES or side not in SIDES or not (is_word(name) or is_mark(name)):
        raise BadShape(0)
    return ("op", int(level), side, name)


def _mode_row(pieces):
    if len(pieces) < 2 or not is_name(pieces[1]):
        raise BadShape(0)
    return ("mode", pieces[1], _mode_of(pieces[2:]))


def _mode_of(pieces):
    """The mode that stands behind a mode line's name."""
    if not pieces:
        return ""
    places = pieces[1::2]
    if not 1 <= len(places) <= PARTS:
        raise BadShape(0)
    if pieces[::2] != ["("] + [","] * (len(places) - 1) + [")"]:
        raise BadShape(0)
    for place in places:
        if place not in PLACE_SIGNS:
            raise BadShape(0)
    return "".join([PLACE_SIGNS[place] for place in places])


def _table_row(pieces):
    if len(pieces) != 3 or not is_name(pieces[1]) or pieces[2] not in PLACES_PIECES:
        raise BadShape(0)
    return ("table", pieces[1], int(pieces[2]))


def _clause_row(pieces, table):
    """The tuple of a clause; its shapes go ahead of all its sizes."""
    at = pieces.index("<-") if "<-" in pieces else len(pieces)
    head = read_pieces(pieces[:at], table)
    if not is_relation(head):
        raise BadShape(0)
    goals = [_goal_of(part, table) for part in _parted_by_commas(pieces[at:])]
    if len(goals) > GOALS:
        raise BadShape(0)
    for reading in [head] + goals:
        _measure(reading)
    return ("clause", head, tuple(goals))


def _parted_by_commas(pieces):
    """The pieces of each goal behind an arrow; none where there is no arrow."""
    parts = []
    brackets = 0
    for piece in pieces:
        if piece == "(":
            brackets += 1
        elif piece == ")":
            brackets -= 1
        # The arrow itself begins the first goal as a comma begins each other one.
        if not parts or (piece == "," and brackets == 0):
            parts.append([])
        else:
            parts[-1].append(piece)
    return parts
