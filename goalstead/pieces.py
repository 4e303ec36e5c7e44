"""The pieces of a line."""

from goalstead.bounds import BRACKETS, FIGURES, MARK_SIGNS, PIECES, WORD_SIGNS
from goalstead.errors import BadPiece, BadSize
from goalstead.signs import CAPITALS, DIGITS, MARKS, SMALLS


def pieces_of(line, *, most=PIECES):
    """The pieces of a line, as texts."""
    pieces = []
    at = _run(line, 0, " ")
    while at < len(line):
        end = _end_of_piece(line, at)
        if not _is_piece(line[at:end]):
            raise BadPiece(0, at)
        pieces.append(line[at:end])
        at = _run(line, end, " ")
    if len(pieces) > most or _most_open(pieces) > BRACKETS:
        raise BadSize(0)
    return pieces


def first_piece(line):
    """What stands where a line's first piece stands, whether it is a piece or not."""
    at = _run(line, 0, " ")
    return line[at:_end_of_piece(line, at)] if at < len(line) else ""


def _run(line, at, signs):
    """The place behind all of these signs that stand together from `at` on."""
    while at < len(line) and line[at] in signs:
        at += 1
    return at


def _end_of_piece(line, at):
    """The place behind the piece that begins at `at`, whatever its length."""
    sign = line[at]
    if sign in DIGITS or sign == "~":
        return _run(line, at + 1, DIGITS)
    if sign in SMALLS or sign in CAPITALS:
        return _run(line, at + 1, SMALLS + DIGITS)
    if sign in MARKS:
        return _run(line, at + 1, MARKS)
    return at + 1


def _is_piece(text):
    """Whether signs that go together are a piece."""
    sign = text[0]
    if sign == "~":
        return 1 <= len(text) - 1 <= FIGURES and text[1] != "0"
    if sign in DIGITS:
        return len(text) <= FIGURES and (sign != "0" or len(text) == 1)
    if sign in SMALLS or sign in CAPITALS:
        return len(text) <= WORD_SIGNS
    if sign in MARKS:
        return len(text) <= MARK_SIGNS
    return sign in "(),"


def _most_open(pieces):
    """The greatest count of brackets that are open somewhere."""
    most = 0
    now = 0
    for piece in pieces:
        if piece == "(":
            now += 1
        elif piece == ")":
            now -= 1
        most = max(most, now)
    return most
