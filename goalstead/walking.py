"""The walk of clauses, goal by goal, by the rows that are told of calls."""

from goalstead.asking import Asking
from goalstead.bounds import GREATEST
from goalstead.errors import NoCall, Open
from goalstead.fields import resolved
from goalstead.goals import field_parts, kind_of
from goalstead.sums import holds, worth_of
from goalstead.terms import is_great, matched, matched_row, parts_at, put_in, title_of
from goalstead.told import Told


def walk_clause(program, line, mode, ins, told):
    """The answers of a clause, how many ways there are behind each goal, and the calls met."""
    head, goals = program.clause(line)
    plan = program.plan(line, mode)
    if len(ins) != mode.count("+"):
        raise NoCall()
    walk = Walk(Told(told))
    found, counts = walk.clause(head, goals, mode, plan, ins)
    return [row for row, _ in found], counts, walk.calls_met()


class Walk(Asking):
    """A walk of one clause or of several by one told list.

    A way is a pair (filling, marks): the marks tell for each goal behind which
    the way is what it went through, as the marks of a step do, but for a
    relation goal the pair of its call and row.
    """

    def clause(self, head, goals, mode, plan, ins):
        """The rows that a clause answers, with their marks, and the counts of ways."""
        filling = matched_row(parts_at(head, mode, "+"), ins, {})
        ways = [] if filling is None else [(filling, ())]
        counts = []
        for goal, word in zip(goals, plan):
            ways = self.ways_behind(goal, word, ways)
            counts.append(len(ways))
        outs = parts_at(head, mode, "-")
        found = []
        for last, marks in ways:
            found.append((tuple([put_together(part, last) for part in outs]), marks))
        return found, counts

    def ways_behind(self, goal, word, ways):
        """The ways behind a goal, whose word the plan tells."""
        step = STEPS[kind_of(goal)]
        behind = []
        for filling, marks in ways:
            for other, mark in step(self, goal, word, filling):
                behind.append((other, (*marks, mark)))
            self.refuse_many(len(behind))
        self.ways += len(behind)
        return behind


def call_of(relation, mode, filling):
    """The call of a relation goal or a not."""
    ins = tuple([put_together(part, filling) for part in parts_at(relation, mode, "+")])
    return (title_of(relation), mode, ins)


def put_together(pattern, filling):
    """A term that is put together and measured."""
    term = put_in(pattern, filling)
    if is_great(term):
        raise Open()
    return term


def _behind_relation(walk, goal, mode, filling):
    call = call_of(goal, mode, filling)
    outs = parts_at(goal, mode, "-")
    found = []
    for row in walk.told.rows_of(walk.meet(call)):
        other = matched_row(outs, row, filling)
        if other is not None:
            found.append((other, (call, row)))
    return found


def _behind_not(walk, goal, mode, filling):
    rows = walk.told.final_rows_of(walk.meet(call_of(goal[1], mode, filling)))
    if rows is None:
        return []
    outs = parts_at(goal[1], mode, "-")
    for row in rows:
        if matched_row(outs, row, filling) is not None:
            return []
    return [(filling, None)]


def _behind_likeness(walk, goal, side, filling):
    known, other = goal[1:] if side == "left" else goal[:0:-1]
    return _if_matched(other, put_together(known, filling), filling)


def _behind_reckoning(walk, goal, word, filling):
    worth = worth_of(goal[2], filling)
    if worth is None:
        return []
    if abs(worth) > GREATEST:
        raise Open()
    return _if_matched(goal[1], worth, filling)


def _if_matched(pattern, term, filling):
    """The one way on which a pattern is matched with a term, or none."""
    other = matched(pattern, term, filling)
    return [] if other is None else [(other, None)]


def _behind_test(walk, goal, word, filling):
    return [(filling, None)] if holds(goal, filling) else []


def _behind_field(walk, goal, word, filling):
    field = resolved(goal, filling)
    if field is None:
        return []
    box, tests = field
    ranges, _ = field_parts(goal)
    unknowns = [part[1] for part in ranges]
    found = []
    for point in walk.told.field_points(box, tests):
        other = matched_row(unknowns, point, filling)
        if other is not None:
            found.append((other, point))
    return found


STEPS = {
    "relation": _behind_relation,
    "not": _behind_not,
    "likeness": _behind_likeness,
    "reckoning": _behind_reckoning,
    "test": _behind_test,
    "field": _behind_field,
}
