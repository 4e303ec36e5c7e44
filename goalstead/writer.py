"""Patterns, goals and rows, written to texts."""

from goalstead.operators import OperatorTable, own
from goalstead.terms import fact_of


def written(pattern, operators):
    """The written form of a pattern or a goal."""
    return _text_of(pattern, OperatorTable(own() + operators))


def plain(pattern):
    """The written form without any operators."""
    return _text_of(pattern, OperatorTable([]))


def written_line(row, operators):
    """The written form of a line's tuple."""
    if row[0] == "op":
        return f"op {row[1]} {row[2]} {row[3]}"
    if row[0] == "mode":
        return f"mode {row[1]}{_places_of(row[2])}"
    if row[0] == "table":
        return f"table {row[1]} {row[2]}"
    if row[0] == "clause":
        return _clause_of(row[1], row[2], operators)
    return ""


def said_step(step, operators):
    """A step as a text: its fact, the line that it is by, and the steps that its marks name."""
    call, row, line, marks = step
    text = f"{written(fact_of(call, row), operators)} by {line}"
    numbers = ", ".join([str(mark) for mark in marks if isinstance(mark, int)])
    return f"{text} from {numbers}" if numbers else text


def _places_of(mode):
    if mode == "":
        return ""
    places = ", ".join(["in" if sign == "+" else "out" for sign in mode])
    return f"({places})"


def _clause_of(head, goals, operators):
    text = written(head, operators)
    if not goals:
        return text
    texts = ", ".join([written(goal, operators) for goal in goals])
    return f"{text} <- {texts}"


def _text_of(pattern, table):
    if isinstance(pattern, int):
        return str(pattern) if pattern >= 0 else f"~{-pattern}"
    if isinstance(pattern, str):
        return pattern
    name = pattern[0]
    if table.is_between(pattern):
        left = _part_of(pattern[1], table.left_bound(name), table)
        right = _part_of(pattern[2], table.right_bound(name), table)
        return f"{left} {name} {right}"
    if table.is_ahead(pattern):
        return f"{name} {_part_of(pattern[1], table.ahead_bound(name), table)}"
    parts = ", ".join([_text_of(part, table) for part in pattern[1:]])
    return f"{name}({parts})"


def _part_of(part, most, table):
    """The text of an operator's part; brackets stand round what is above the level let by there."""
    text = _text_of(part, table)
    return f"({text})" if table.level_of(part) > most else text
