"""Fields: their boxes, the points of a box at which tests hold, tight boxes, and cut papers."""

from goalstead.bounds import GREATEST, POINTS
from goalstead.errors import Open
from goalstead.goals import field_parts
from goalstead.sums import holds, out, placed_test, worth_of
from goalstead.terms import unknowns_of


def resolved(goal, filling):
    """The box and the tests of a field under a filling, or None where it has no way."""
    ranges, tests = field_parts(goal)
    box = box_of([_worths_of(part, filling) for part in ranges])
    trees = _trees_of(ranges, tests, filling)
    if box is None or None in list(trees.values()):
        return None
    return box, tuple([placed_test(test, trees) for test in tests])


def _worths_of(part, filling):
    """The worths of a range's two sums."""
    low, high = part[2][1:]
    return (worth_of(low, filling), worth_of(high, filling))


def box_of(pairs):
    """The box that worths make pair by pair, or None where one of them is none or the box has no points."""
    for pair in pairs:
        for worth in pair:
            if worth is None:
                return None
            if abs(worth) > GREATEST:
                raise Open()
    _refuse_many(pairs)
    return tuple(pairs) if _many(pairs) > 0 else None


def _trees_of(ranges, tests, filling):
    """What stands for each unknown in a field's tests, None for a term that is no number."""
    trees = {}
    for place, part in enumerate(ranges):
        trees[part[1]] = ("at", place)
    for test in tests:
        for unknown in unknowns_of(test):
            if unknown not in trees:
                term = filling[unknown]
                trees[unknown] = term if isinstance(term, int) else None
    return trees


def _many(box):
    """How many points a box has."""
    many = 1
    for low, high in box:
        many *= max(0, high - low + 1)
    return many


def _refuse_many(box):
    if _many(box) > POINTS:
        raise Open()


def _all_hold(tests, point):
    for test in tests:
        if not holds(test, point):
            return False
    return True


def _none_out(tests, box):
    for test in tests:
        if out(test, box):
            return False
    return True


def points_of(box, tests):
    """The points of a box at which all tests hold, in rising order."""
    _refuse_many(box)
    if _many(box) == 0:
        return []
    points = [()]
    for low, high in box:
        points = [(*point, number) for point in points for number in range(low, high + 1)]
    return [point for point in points if _all_hold(tests, point)]


def has_point(field, point):
    """Whether a tuple of numbers is one of a field's points at which all its tests hold."""
    box, tests = field
    if len(point) != len(box):
        return False
    for number, (low, high) in zip(point, box):
        if not low <= number <= high:
            return False
    return _all_hold(tests, point)


def tight_of(box, tests):
    """The greatest tight box within a box, or None where there is none."""
    _refuse_many(box)
    if _many(box) == 0:
        return None
    wide = None
    tight = box
    # A number that is not held at a pair is held in no smaller box either, so none is left out too early.
    while tight != wide:
        wide = tight
        for place in range(len(box)):
            pair = _held_pair(tight, place, tests)
            if pair is None:
                return None
            tight = _with_pair(tight, place, pair)
    return tight


def _held_pair(box, place, tests):
    """The least and the greatest number held at a pair, or None where none is."""
    low, high = box[place]
    while low <= high and not _is_held(box, place, low, tests):
        low += 1
    while low < high and not _is_held(box, place, high, tests):
        high -= 1
    return (low, high) if low <= high else None


def _is_held(box, place, number, tests):
    return _none_out(tests, _with_pair(box, place, (number, number)))


def _with_pair(box, place, pair):
    return (*box[:place], pair, *box[place + 1:])


def cuts_of(box, tests):
    """A cut paper of a box."""
    _refuse_many(box)
    lines = []
    if _many(box) > 0:
        _cut(box, tests, lines)
    return lines


def _cut(box, tests, lines):
    """Lays the lines for a box behind the lines; tells the number of its own one."""
    for number, test in enumerate(tests):
        if out(test, box):
            return _laid_behind(lines, ("out", number))
    if _many(box) == 1:
        return _laid_behind(lines, ("point",))
    widths = [high - low for low, high in box]
    place = widths.index(max(widths))
    low, high = box[place]
    at = (low + high) // 2
    one = _cut(_with_pair(box, place, (low, at)), tests, lines)
    two = _cut(_with_pair(box, place, (at + 1, high)), tests, lines)
    return _laid_behind(lines, ("cut", place, at, one, two))


def _laid_behind(lines, line):
    lines.append(line)
    return len(lines) - 1


def shown(box, tests, lines):
    """The points that a cut paper shows, in rising order, or None where it is none."""
    _refuse_many(box)
    if _many(box) == 0:
        return None if lines else []
    if not lines:
        return None
    points = []
    # Papers may be hundreds of cuts deep, so what is still to be walked is kept in a list.
    waiting = [(len(lines) - 1, box)]
    while waiting:
        number, part = waiting.pop()
        if not _fits(lines[number], number, part, tests):
            return None
        if lines[number][0] == "cut":
            waiting.extend(_halves(lines[number], part))
        elif lines[number][0] == "point":
            points.append(tuple([low for low, _ in part]))
    return sorted([point for point in points if _all_hold(tests, point)])


def _fits(line, number, box, tests):
    """Whether the line of that number fits a box."""
    if line[0] == "cut":
        _, place, at, one, two = line
        if not (0 <= place < len(box) and 0 <= one < number and 0 <= two < number):
            return False
        low, high = box[place]
        return low <= at < high
    if line[0] == "out":
        return 0 <= line[1] < len(tests) and out(tests[line[1]], box)
    return _many(box) == 1


def _halves(line, box):
    """The two lines with which a cut goes on, each with its part of the box."""
    _, place, at, one, two = line
    low, high = box[place]
    return [(one, _with_pair(box, place, (low, at))), (two, _with_pair(box, place, (at + 1, high)))]
