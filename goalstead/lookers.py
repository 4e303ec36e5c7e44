"""When steps, warrants and turns hold, whoever wrote them."""

from goalstead.asking import has_call
from goalstead.bounds import MOST
from goalstead.errors import Open
from goalstead.fields import has_point, resolved
from goalstead.goals import field_parts, kind_of
from goalstead.terms import matched_row, parts_at, rows_in_order
from goalstead.told import Told, key_of
from goalstead.walking import Walk, call_of, put_together


def step_holds(program, told, steps, number):
    """Whether the step of that number holds in a list of steps, by a told list."""
    return Paper(program, told, steps).is_held(number)


def warrant_holds(program, call, paper):
    """Whether a pair (book, steps) is a warrant of a call that holds."""
    book, steps = paper
    if not _are_calls(program, call, book):
        return False
    look = Paper(program, book, steps)
    ahead = {}
    for other, rows in book:
        found = look.found_of(other)
        if found is None or not _is_answered(program, other, rows, found, ahead):
            return False
        ahead[key_of(other)] = True
    tabled = [(other, rows) for other, rows in book if _is_tabled(program, other)]
    return look.all_held(tabled)


def turn_holds(program, call, paper):
    """Whether a triple (lot, steps, ring) is a turn of a call that holds."""
    lot, steps, ring = paper
    if not _are_calls(program, call, lot):
        return False
    look = Paper(program, lot, steps)
    leads = {}
    for other, rows in lot:
        found = look.found_of(other)
        if found is None or rows_in_order(found[0]) != rows:
            return False
        leads[key_of(other)] = {key_of(met): True for met in found[1]}
    return look.all_held(lot) and _is_ring(program, call, ring, leads)


def _is_tabled(program, call):
    title, _, _ = call
    return program.is_tabled(title)


def _are_calls(program, call, pairs):
    """Whether the call is among these pairs, all are of calls that may be walked, and nothing stands twice."""
    calls = [key_of(other) for other, _ in pairs]
    if key_of(call) not in calls or _is_twice(calls):
        return False
    for other, rows in pairs:
        if not has_call(program, other) or _is_twice([key_of(row) for row in rows]):
            return False
    return True


def _is_twice(keys):
    """Whether one of these keys stands twice."""
    return len(set(keys)) < len(keys)


def _is_answered(program, call, rows, found, ahead):
    """Whether a book's rows of a call are what its walk found, behind the calls ahead of it."""
    answers, met = found
    if _is_tabled(program, call):
        return rows_in_order(answers) == rows
    for other in met:
        if not _is_tabled(program, other) and key_of(other) not in ahead:
            return False
    return answers == rows


def _is_ring(program, call, ring, leads):
    """Whether a ring goes from the call by what calls lead to, and back to a place behind which none is tabled."""
    if len(ring) < 2 or ring[0] != call:
        return False
    keys = [key_of(other) for other in ring]
    for one, other in zip(keys, keys[1:]):
        if other not in leads[one]:
            return False
    # The last of the places at which the last call stands has the fewest calls behind it.
    at = len(keys) - 2
    while at >= 0 and keys[at] != keys[-1]:
        at -= 1
    if at < 0:
        return False
    return not any([_is_tabled(program, other) for other in ring[at:]])


class Paper(Told):
    """A told list with steps beside it, looked at by a program."""

    def __init__(self, program, told, steps):
        Told.__init__(self, told)
        self.program = program
        self.steps = steps

    def final_rows_of(self, key):
        """A not's call has to stand in the told list, be it without rows."""
        return self.rows.get(key)

    def found_of(self, call):
        """The answers of a call and the calls met, or None where that is refused or one of them is not told."""
        try:
            answers, met, _ = self.program.walk_by(call, self, most=MOST)
        except Open:
            return None
        for other in met:
            if key_of(other) not in self.rows:
                return None
        return answers, met

    def all_held(self, needing):
        """Whether each step holds and is of a told row, and each row of these pairs has a step."""
        told = {}
        for key, rows in self.rows.items():
            told[key] = {key_of(row): True for row in rows}
        have = {}
        for number, (call, row, _, _) in enumerate(self.steps):
            if key_of(row) not in told.get(key_of(call), {}) or not self.is_held(number):
                return False
            have[(key_of(call), key_of(row))] = True
        for call, rows in needing:
            for row in rows:
                if (key_of(call), key_of(row)) not in have:
                    return False
        return True

    def is_held(self, number):
        """Whether the step of that number holds."""
        if not 0 <= number < len(self.steps):
            return False
        call, row, line, marks = self.steps[number]
        title, _, _ = call
        if not has_call(self.program, call) or line not in self.program.clauses(title):
            return False
        if len(marks) != len(self.program.clause(line)[1]):
            return False
        try:
            return self.row_behind(number) == row
        except Open:
            return False

    def row_behind(self, number):
        """The row at the end of a step's road, or None where the road does not go on so far."""
        (_, mode, ins), _, line, marks = self.steps[number]
        head, goals = self.program.clause(line)
        filling = matched_row(parts_at(head, mode, "+"), ins, {})
        for goal, word, mark in zip(goals, self.program.plan(line, mode), marks):
            if filling is None:
                return None
            filling = self.filling_behind(goal, word, filling, mark, number)
        if filling is None:
            return None
        return tuple([put_together(part, filling) for part in parts_at(head, mode, "-")])

    def filling_behind(self, goal, word, filling, mark, number):
        """The filling behind a goal of a step, by the goal's mark, or None."""
        kind = kind_of(goal)
        if kind == "relation":
            return self.filling_by_step(goal, word, filling, mark, number)
        if kind == "field":
            return _filling_by_point(goal, filling, mark)
        if mark is not None:
            return None
        ways = Walk(self).ways_behind(goal, word, [(filling, ())])
        return ways[0][0] if ways else None

    def filling_by_step(self, goal, mode, filling, mark, number):
        """The filling by the row of a step that is named, which has to stand ahead of the step of that number."""
        call = call_of(goal, mode, filling)
        if not isinstance(mark, int) or not 0 <= mark < number:
            return None
        other, row, _, _ = self.steps[mark]
        return matched_row(parts_at(goal, mode, "-"), row, filling) if other == call else None


def _filling_by_point(goal, filling, point):
    """The filling by a point of a field."""
    field = resolved(goal, filling)
    if field is None or not isinstance(point, tuple) or not has_point(field, point):
        return None
    ranges, _ = field_parts(goal)
    return matched_row([part[1] for part in ranges], point, filling)
