"""Questions: the calls that they ask, and what they come to."""

from goalstead.books import answers_by_lot
from goalstead.errors import BadShape, NoMode, Open, Round
from goalstead.lots import found_lot
from goalstead.reader import read_term
from goalstead.shapes import is_relation
from goalstead.terms import matched_row, parts_at, title_of, unknowns_of


def read_question(question, operators):
    """The relation pattern that a question is."""
    pattern = read_term(question, operators)
    if not is_relation(pattern):
        raise BadShape(0)
    return pattern


def call_asked(house, pattern):
    """The call of a question, in the first mode whose + places are without unknowns."""
    title = title_of(pattern)
    for mode in house.modes(title):
        ins = parts_at(pattern, mode, "+")
        if not any([unknowns_of(part) for part in ins]):
            return (title, mode, tuple(ins))
    raise NoMode()


def asked(house, pattern, most):
    """What a question comes to in a program or an image."""
    call = call_asked(house, pattern)
    try:
        lot = found_lot(house, call, most)
    except Open:
        return Asked(call, "open", [], [])
    titles = [title for title, _, _ in lot.all_calls()]
    try:
        rows = answers_by_lot(house, lot, call)
    except Round:
        return Asked(call, "round", titles, [])
    return Asked(call, "book", titles, _answers_among(rows, pattern, call))


def _answers_among(rows, pattern, call):
    """Pairs of a row that a question's places match and the terms of the question's unknowns."""
    _, mode, _ = call
    outs = parts_at(pattern, mode, "-")
    unknowns = unknowns_of(pattern)
    found = []
    for row in rows:
        filling = matched_row(outs, row, {})
        if filling is not None:
            found.append((row, tuple([filling[unknown] for unknown in unknowns])))
    return found


class Asked:
    """The call of a question, the verdict on it, the titles in its lot, and the rows and answers of a book.

    Where the verdict is "open" there is no lot, and no title is told.
    """

    def __init__(self, call, verdict, titles, answers):
        self.call = call
        self.verdict = verdict
        self.hangs_on = titles
        self.answers = answers

    def state_found(self):
        """The state, in a list that is the asker's own."""
        if self.verdict == "book":
            return ("book", [answer for _, answer in self.answers])
        return (self.verdict,)

    def row_of(self, number):
        """The row of which the answer of that number comes, or None where there is no such answer."""
        return self.answers[number][0] if 0 <= number < len(self.answers) else None
