"""Codes, to which clauses are compiled: how they run, and when they fit a number of ins."""

from goalstead.asking import Asking
from goalstead.bounds import GREATEST
from goalstead.errors import Open
from goalstead.fields import box_of
from goalstead.places import grouped, places_in, read_by, written_by
from goalstead.sums import holds, tree_at, worth_of
from goalstead.terms import is_great
from goalstead.told import Told


def run(codes, ins, told):
    """The answers of codes, how many states come to each mark, and the calls met."""
    work = Run(Told(told))
    answers, counts = work.answers_of(codes, ins)
    return answers, counts, work.calls_met()


class Run(Asking):
    """A run of one list of codes or of several by one told list.

    A state is a dict from places to terms. It stands in one list alone and no
    place is written twice, so a code may write into the state that it is handed.
    """

    def answers_of(self, codes, ins):
        """The answers of codes, state by state, and how many states come to each mark."""
        states = [dict(enumerate(ins))]
        counts = []
        part = []
        for code, within in grouped(codes):
            if code[0] == "mark":
                states = self.states_behind(part, states)
                counts.append(len(states))
                self.ways += len(states)
                part = []
            else:
                part.append((code, within))
        answers = []
        for state in states:
            for last in self.made_of(state, part):
                answers.append(_terms_at(codes[-1][1], last))
        return answers, counts

    def states_behind(self, part, states):
        """The states that come to the mark behind a part of the codes."""
        behind = []
        for state in states:
            behind.extend(self.made_of(state, part))
            self.refuse_many(len(behind))
        return behind

    def made_of(self, state, part):
        """What codes, each with those within it, make of one state."""
        states = [state]
        for code, within in part:
            step = STEPS[code[0]]
            behind = []
            for one in states:
                behind.extend(step(self, code, within, one))
            states = behind
        return states

    def key_at(self, code, state):
        """The key of the call that a call or a bar asks for at a state."""
        _, title, mode, places = code[:4]
        return self.meet((title, mode, _terms_at(places, state)))


def _terms_at(places, state):
    return tuple([state[place] for place in places])


def _write(state, first, terms):
    """Has places hold terms, from the first place on."""
    for number, term in enumerate(terms):
        state[first + number] = term


def _with_terms(state, first, terms):
    """Another state, in which places hold terms, too."""
    other = dict(state)
    _write(other, first, terms)
    return other


def _behind_this(work, code, within, state):
    _, place, term = code
    return [state] if state[place] == term else []


def _behind_open(work, code, within, state):
    _, place, name, first, many = code
    term = state[place]
    if not isinstance(term, tuple) or term[0] != name or len(term) != many + 1:
        return []
    _write(state, first, term[1:])
    return [state]


def _behind_same(work, code, within, state):
    _, one, other = code
    return [state] if state[one] == state[other] else []


def _behind_put(work, code, within, state):
    _, place, term = code
    state[place] = term
    return [state]


def _behind_make(work, code, within, state):
    _, place, name, places = code
    parts = _terms_at(places, state)
    term = (name, *parts)
    if is_great(term):
        raise Open()
    state[place] = term
    return [state]


def _behind_sum(work, code, within, state):
    _, place, tree = code
    worth = worth_of(tree, state)
    if worth is None:
        return []
    if abs(worth) > GREATEST:
        raise Open()
    state[place] = worth
    return [state]


def _behind_test(work, code, within, state):
    return [state] if holds(code[1:], state) else []


def _behind_call(work, code, within, state):
    rows = work.told.rows_of(work.key_at(code, state))
    return [_with_terms(state, code[4], row) for row in rows]


def _behind_bar(work, code, within, state):
    rows = work.told.final_rows_of(work.key_at(code, state))
    if rows is None:
        return []
    part = [(inner, []) for inner in within]
    for row in rows:
        if work.made_of(_with_terms(state, code[4], row), part):
            return []
    return [state]


def _behind_field(work, code, within, state):
    _, ranges, tests, first = code
    box = box_of([(worth_of(low, state), worth_of(high, state)) for low, high in ranges])
    seats = _seats_of(code, state)
    if box is None or None in list(seats.values()):
        return []
    placed = tuple([(sign, tree_at(left, seats), tree_at(right, seats)) for sign, left, right in tests])
    return [_with_terms(state, first, point) for point in work.told.field_points(box, placed)]


def _seats_of(code, state):
    """What stands for each place in a field's tests over its box, None for a term that is no number."""
    _, _, tests, _ = code
    seats = {}
    for _, left, right in tests:
        for place in places_in(left) + places_in(right):
            term = state.get(place)
            seats[place] = term if isinstance(term, int) else None
    for number, place in enumerate(written_by(code)):
        seats[place] = ("at", number)
    return seats


def _behind_tell(work, code, within, state):
    return [state]


STEPS = {
    "this": _behind_this,
    "open": _behind_open,
    "same": _behind_same,
    "put": _behind_put,
    "make": _behind_make,
    "sum": _behind_sum,
    "test": _behind_test,
    "call": _behind_call,
    "bar": _behind_bar,
    "field": _behind_field,
    "tell": _behind_tell,
}


def fits(codes, many):
    """Whether codes fit a number of ins."""
    kinds = [code[0] for code in codes]
    if kinds.count("tell") != 1 or kinds[-1] != "tell":
        return False
    known = {place: True for place in range(many)}
    written = dict(known)
    for code, within in grouped(codes):
        if not _is_whole(code, within):
            return False
        # What is written from a bar on is known within it alone.
        here = dict(known) if code[0] == "bar" else known
        for each in [code, *within]:
            if not _is_let_by(each, here, written):
                return False
            for place in written_by(each):
                here[place] = True
                written[place] = True
    return True


def _is_whole(code, within):
    """Whether a call or a bar has as many places as its mode tells, and a bar all codes within it, of these kinds."""
    if code[0] not in ("call", "bar"):
        return True
    if len(code[3]) != code[2].count("+"):
        return False
    if code[0] == "call":
        return True
    for inner in within:
        if inner[0] not in ("this", "open", "same"):
            return False
    return len(within) == code[5]


def _is_let_by(code, known, written):
    """Whether a code reads only places that are known and writes only ones that are not written yet."""
    for place in read_by(code):
        if place not in known:
            return False
    for place in written_by(code):
        if place in written:
            return False
    return True
