"""Patterns, terms and fillings, and the order of terms, rows and calls."""

from goalstead.bounds import DEEP, SIZE
from goalstead.signs import is_unknown


def size_of(pattern):
    """The count of the numbers, words, unknowns and names in a pattern."""
    many = 0
    waiting = [pattern]
    while waiting:
        part = waiting.pop()
        many += 1
        if isinstance(part, tuple):
            waiting.extend(part[1:])
    return many


def depth_of(pattern):
    """1, of a tuple one more than the depth of its deepest part."""
    depth = 0
    layer = [pattern]
    while layer:
        depth += 1
        layer = [part for whole in layer if isinstance(whole, tuple) for part in whole[1:]]
    return depth


def is_great(pattern):
    """Whether a pattern is bigger or deeper than patterns may be."""
    return size_of(pattern) > SIZE or depth_of(pattern) > DEEP


def unknowns_of(pattern):
    """The unknowns of a pattern, each once, in the order in which they first stand."""
    found = {}
    waiting = [pattern]
    while waiting:
        part = waiting.pop()
        if isinstance(part, tuple):
            # What waits is taken from the end, so the parts go in turned round.
            waiting.extend(part[:0:-1])
        elif is_unknown(part):
            found[part] = True
    return list(found)


def _rank(term):
    """What stands for a term where Python puts things in order."""
    if isinstance(term, int):
        return (0, term)
    if isinstance(term, str):
        return (1, term)
    return (2, len(term), term[0], _row_rank(term[1:]))


def _row_rank(row):
    return tuple([_rank(term) for term in row])


def _call_rank(call):
    title, mode, ins = call
    return (title, mode, _row_rank(ins))


def in_order(terms):
    return sorted(terms, key=_rank)


def rows_in_order(rows):
    return sorted(rows, key=_row_rank)


def calls_in_order(calls):
    return sorted(calls, key=_call_rank)


def matched(pattern, term, filling):
    """The filling with all that was taken, or None where the pattern does not match."""
    return matched_row([pattern], [term], filling)


def matched_row(patterns, terms, filling):
    """The filling by which patterns match as many terms from the left, or None."""
    found = dict(filling)
    for pattern, term in zip(patterns, terms):
        if not _takes(pattern, term, found):
            return None
    return found


def _takes(pattern, term, found):
    """Whether the pattern matches; what its unknowns take is put into found."""
    if is_unknown(pattern):
        return found.setdefault(pattern, term) == term
    if not isinstance(pattern, tuple):
        return pattern == term
    if not isinstance(term, tuple) or len(term) != len(pattern) or term[0] != pattern[0]:
        return False
    for part, worth in zip(pattern[1:], term[1:]):
        if not _takes(part, worth, found):
            return False
    return True


def put_in(pattern, filling):
    """The term that a pattern is, its unknowns' terms in their places."""
    if isinstance(pattern, tuple):
        parts = [put_in(part, filling) for part in pattern[1:]]
        return (pattern[0], *parts)
    return filling[pattern] if is_unknown(pattern) else pattern


def title_of(pattern):
    if isinstance(pattern, tuple):
        return f"{pattern[0]}/{len(pattern) - 1}"
    return f"{pattern}/0"


def fact_of(call, row):
    """The relation pattern that a call's ins and a row make together."""
    title, mode, ins = call
    # A name may have strokes of its own, so the title's last one is looked for.
    name = title.rpartition("/")[0]
    if mode == "":
        return name
    parts = []
    taken = 0
    for place, sign in enumerate(mode):
        if sign == "+":
            parts.append(ins[taken])
            taken += 1
        else:
            parts.append(row[place - taken])
    return (name, *parts)


def parts_at(pattern, mode, sign):
    """The parts of a relation pattern at those places of a mode that have this sign; a word has no places."""
    return [part for part, other in zip(pattern[1:], mode) if other == sign]
