"""Codes laid of clauses."""

from goalstead.goals import field_parts, kind_of
from goalstead.signs import is_unknown
from goalstead.sums import placed_test, tree_of
from goalstead.terms import parts_at, title_of


def laid(program, line, mode):
    """The codes of the clause in a line, in a mode of its head's relation."""
    head, goals = program.clause(line)
    plan = program.plan(line, mode)
    laying = Laying(mode.count("+"))
    laying.match_row(parts_at(head, mode, "+"), 0)
    for goal, word in zip(goals, plan):
        step = STEPS[kind_of(goal)]
        step(laying, goal, word)
        laying.codes.append(("mark",))
    laying.codes.append(("tell", laying.put_row(parts_at(head, mode, "-"))))
    return laying.codes


class Laying:
    """Codes laid so far, and the places of the unknowns that are known behind them.

    A pattern is put together whole before anything is held against it: what is
    too great has to be refused whether it would match or not.
    """

    def __init__(self, many):
        self.codes = []
        self.places = {}
        self.free = many

    def take_places(self, many):
        """The first of as many places that nothing else writes."""
        first = self.free
        self.free += many
        return first

    def match_row(self, patterns, first):
        """Has patterns match what places hold, from the first place on."""
        for number, pattern in enumerate(patterns):
            self.match(pattern, first + number)

    def match(self, pattern, place):
        """Has a pattern match what a place holds; its new unknowns are known at places then."""
        if isinstance(pattern, tuple):
            many = len(pattern) - 1
            first = self.take_places(many)
            self.codes.append(("open", place, pattern[0], first, many))
            self.match_row(pattern[1:], first)
        elif not is_unknown(pattern):
            self.codes.append(("this", place, pattern))
        elif pattern in self.places:
            self.codes.append(("same", place, self.places[pattern]))
        else:
            self.places[pattern] = place

    def put_row(self, patterns):
        """The places that hold what patterns put together."""
        return tuple([self.put(pattern) for pattern in patterns])

    def put(self, pattern):
        """The place that holds what a pattern puts together."""
        if is_unknown(pattern):
            return self.places[pattern]
        if isinstance(pattern, tuple):
            parts = self.put_row(pattern[1:])
            place = self.take_places(1)
            self.codes.append(("make", place, pattern[0], parts))
        else:
            place = self.take_places(1)
            self.codes.append(("put", place, pattern))
        return place

    def trees(self):
        """The tree that stands in a sum for each known unknown."""
        return {unknown: ("at", place) for unknown, place in self.places.items()}


def _relation_laid(laying, goal, mode):
    outs = parts_at(goal, mode, "-")
    places = laying.put_row(parts_at(goal, mode, "+"))
    first = laying.take_places(len(outs))
    laying.codes.append(("call", title_of(goal), mode, places, first))
    laying.match_row(outs, first)


def _not_laid(laying, goal, mode):
    outs = parts_at(goal[1], mode, "-")
    places = laying.put_row(parts_at(goal[1], mode, "+"))
    first = laying.take_places(len(outs))
    # A not's own unknowns are known within its bar alone.
    known = dict(laying.places)
    start = len(laying.codes)
    laying.match_row(outs, first)
    laying.places = known
    within = laying.codes[start:]
    laying.codes.insert(start, ("bar", title_of(goal[1]), mode, places, first, len(within)))


def _likeness_laid(laying, goal, side):
    _, left, right = goal
    if side == "left":
        laying.match(right, laying.put(left))
    else:
        laying.match(left, laying.put(right))


def _reckoning_laid(laying, goal, word):
    place = laying.take_places(1)
    laying.codes.append(("sum", place, tree_of(goal[2], laying.trees())))
    laying.match(goal[1], place)


def _test_laid(laying, goal, word):
    laying.codes.append(("test", *placed_test(goal, laying.trees())))


def _field_laid(laying, goal, word):
    ranges, tests = field_parts(goal)
    trees = laying.trees()
    pairs = [(tree_of(part[2][1], trees), tree_of(part[2][2], trees)) for part in ranges]
    first = laying.take_places(len(ranges))
    unknowns = [part[1] for part in ranges]
    for number, unknown in enumerate(unknowns):
        trees[unknown] = ("at", first + number)
    placed = [placed_test(test, trees) for test in tests]
    laying.codes.append(("field", tuple(pairs), tuple(placed), first))
    laying.match_row(unknowns, first)


STEPS = {
    "relation": _relation_laid,
    "not": _not_laid,
    "likeness": _likeness_laid,
    "reckoning": _reckoning_laid,
    "test": _test_laid,
    "field": _field_laid,
}
