"""Papers: warrants, turns and grounds, by whose steps what is told leads to lines."""

from goalstead.bounds import MOST
from goalstead.books import book_by_lot
from goalstead.errors import NoRow, NoTurn
from goalstead.goals import kind_of
from goalstead.lots import found_lot
from goalstead.told import Told, key_of
from goalstead.walking import Walk


def warrant_of(program, call, *, most=MOST):
    """The call's book, and steps for its rows."""
    lot = found_lot(program, call, most)
    book = book_by_lot(program, lot)
    return book, steps_of(program, lot).steps


def turn_of(program, call, *, most=MOST):
    """The call's lot, steps for its rows, and calls that lead back to one of them."""
    lot = found_lot(program, call, most)
    turning = lot.turning_calls()
    if not turning:
        raise NoTurn()
    ring = _road(lot, turning[0], turning[0])
    if call != turning[0]:
        ring = _road(lot, call, turning[0]) + ring[1:]
    return lot.pairs(), steps_of(program, lot).steps, ring


def grounds_of(program, call, row, *, most=MOST):
    """The steps by which a call has a row, that of the row last."""
    lot = found_lot(program, call, most)
    if row not in lot.rows_of(key_of(call)):
        raise NoRow()
    found = steps_of(program, lot)
    return _needed(found.steps, found.number_of(call, row))


def steps_of(program, lot):
    """A step for each row of each call of a lot."""
    found = Steps(program, lot)
    waiting = {key_of(call): True for call in lot.all_calls()}
    while waiting:
        late = {}
        for key in waiting:
            if found.walk_again(lot.calls[key]):
                for follower in lot.followers[key]:
                    late[follower] = True
        waiting = late
    return found


class Steps(Told):
    """Steps found one behind the other: what is told to a walk are the rows that have one already."""

    def __init__(self, program, lot):
        Told.__init__(self, [])
        self.points = lot.points
        self.program = program
        self.lot = lot
        self.steps = []
        self.numbers = {}

    def final_rows_of(self, key):
        return self.lot.rows_of(key)

    def number_of(self, call, row):
        """The number of the step of a call and a row, or None where they have none."""
        return self.numbers.get((key_of(call), key_of(row)))

    def walk_again(self, call):
        """Walks a call by the rows that have a step; tells whether any other row got one."""
        many = len(self.steps)
        title, mode, ins = call
        walk = Walk(self)
        for line in self.program.clauses(title):
            head, goals = self.program.clause(line)
            found, _ = walk.clause(head, goals, mode, self.program.plan(line, mode), ins)
            for row, marks in found:
                if self.number_of(call, row) is None:
                    numbers = [self.numbered(goal, mark) for goal, mark in zip(goals, marks)]
                    self.take((call, row, line, tuple(numbers)))
        return len(self.steps) > many

    def numbered(self, goal, mark):
        """A step's mark by that of a way: a number for the call and the row of a relation goal."""
        if kind_of(goal) != "relation":
            return mark
        call, row = mark
        return self.number_of(call, row)

    def take(self, step):
        call, row, _, _ = step
        key = key_of(call)
        self.numbers[(key, key_of(row))] = len(self.steps)
        self.steps.append(step)
        self.rows.setdefault(key, []).append(row)


def _needed(steps, number):
    """The step of a number and those that it goes back to, numbered anew."""
    needed = {number: True}
    for at in range(number, -1, -1):
        if at in needed:
            for named in _numbers_in(steps[at]):
                needed[named] = True
    kept = sorted(needed)
    numbers = {old: new for new, old in enumerate(kept)}
    return [_renumbered(steps[at], numbers) for at in kept]


def _numbers_in(step):
    """The numbers of steps that stand among a step's marks."""
    return [mark for mark in step[3] if isinstance(mark, int)]


def _renumbered(step, numbers):
    call, row, line, marks = step
    return (call, row, line, tuple([numbers[mark] if isinstance(mark, int) else mark for mark in marks]))


def _road(lot, start, end):
    """The fewest calls from a start to an end, each leading to the next one, in one step or more."""
    seen = {}
    waiting = [[start]]
    while waiting:
        longer = []
        for road in waiting:
            for call in lot.leads[key_of(road[-1])]:
                if call == end:
                    return [*road, call]
                if key_of(call) not in seen:
                    seen[key_of(call)] = True
                    longer.append([*road, call])
        waiting = longer
    return []
