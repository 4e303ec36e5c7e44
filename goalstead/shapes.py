"""The shapes of readings: patterns, and the goals of each kind."""

from goalstead.bounds import RANGES, TESTS
from goalstead.signs import is_kept, is_unknown, is_word
from goalstead.terms import unknowns_of

TEST_SIGNS = ("<", "=<", "==", "=/=")
SUM_SIGNS = ("+", "-", "*", "//", "mod")


def is_pattern(reading):
    """Whether no kept word and no kept mark stands in a reading."""
    waiting = [reading]
    while waiting:
        part = waiting.pop()
        if isinstance(part, tuple):
            if is_kept(part[0]):
                return False
            waiting.extend(part[1:])
    return True


def is_relation(reading):
    """Whether a reading is a relation pattern."""
    return is_pattern(reading) and (is_word(reading) or isinstance(reading, tuple))


def is_goal(reading):
    """Whether a reading is a goal of any kind."""
    return (
        is_relation(reading)
        or is_not(reading)
        or is_likeness(reading)
        or is_reckoning(reading)
        or is_test(reading)
        or is_field(reading)
    )


def is_not(reading):
    return _is_named(reading, ("not",), 1) and is_relation(reading[1])


def is_likeness(reading):
    return _is_named(reading, ("=",), 2) and is_pattern(reading[1]) and is_pattern(reading[2])


def is_reckoning(reading):
    return _is_named(reading, ("is",), 2) and is_pattern(reading[1]) and is_sum(reading[2])


def is_test(reading):
    return _is_named(reading, TEST_SIGNS, 2) and is_sum(reading[1]) and is_sum(reading[2])


def is_field(reading):
    """Whether a reading is a box, perhaps with tests."""
    if _is_named(reading, ("such",), 2):
        return _is_box(reading[1]) and _are_tests(reading[2])
    return _is_box(reading)


def is_sum(reading):
    if isinstance(reading, tuple):
        return _is_named(reading, SUM_SIGNS, 2) and is_sum(reading[1]) and is_sum(reading[2])
    return isinstance(reading, int) or is_unknown(reading)


def parted_by_and(reading):
    """What stands ahead of, between and behind the `and`s of a reading, from the left."""
    parts = []
    while _is_named(reading, ("and",), 2):
        parts.append(reading[1])
        reading = reading[2]
    parts.append(reading)
    return parts


def _is_named(reading, names, many):
    """Whether a reading is a tuple of one of these names and so many parts."""
    return isinstance(reading, tuple) and reading[0] in names and len(reading) == many + 1


def _is_range(reading):
    if not _is_named(reading, ("in",), 2):
        return False
    unknown, span = reading[1:]
    return is_unknown(unknown) and _is_named(span, ("..",), 2) and is_sum(span[1]) and is_sum(span[2])


def _is_box(reading):
    ranges = parted_by_and(reading)
    for part in ranges:
        if not _is_range(part):
            return False
    names = [part[1] for part in ranges]
    if len(ranges) > RANGES or len(set(names)) < len(names):
        return False
    for part in ranges:
        for unknown in unknowns_of(part[2]):
            if unknown in names:
                return False
    return True


def _are_tests(reading):
    tests = parted_by_and(reading)
    for part in tests:
        if not is_test(part):
            return False
    return len(tests) <= TESTS
