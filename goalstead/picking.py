"""The clauses that are picked for a call: those whose head may match it."""

from goalstead.asking import refuse_unknown
from goalstead.signs import is_unknown


def picked(program, call):
    """The lines of the clauses of a call's relation that may have ways for it."""
    refuse_unknown(program, call)
    title, mode, ins = call
    lines = program.clauses(title)
    if not ins:
        return lines
    place = mode.index("+") + 1
    return [line for line in lines if _may_match(program.clause(line)[0][place], ins[0])]


def _may_match(pattern, term):
    """Whether a pattern is an unknown or begins as the term does."""
    if is_unknown(pattern):
        return True
    if isinstance(pattern, tuple) and isinstance(term, tuple):
        return pattern[0] == term[0] and len(pattern) == len(term)
    return pattern == term
