"""The kinds of goals, told by their names, and what stands in a goal."""

from goalstead.shapes import parted_by_and
from goalstead.terms import title_of

# Each name is a kept one, so no relation has it.
KINDS = {
    "not": "not",
    "=": "likeness",
    "is": "reckoning",
    "<": "test",
    "=<": "test",
    "==": "test",
    "=/=": "test",
    "in": "field",
    "and": "field",
    "such": "field",
}


def kind_of(goal):
    """What kind a goal is of; "relation" is that of relation goals."""
    return KINDS.get(goal[0], "relation") if isinstance(goal, tuple) else "relation"


def relation_in(goal):
    """The relation pattern of a relation goal or a not; None in other goals."""
    kind = kind_of(goal)
    if kind == "not":
        return goal[1]
    return goal if kind == "relation" else None


def titles_in(goals):
    """The title of each goal's relation, None for goals that have none."""
    relations = [relation_in(goal) for goal in goals]
    return [None if relation is None else title_of(relation) for relation in relations]


def field_parts(goal):
    """The ranges and the tests of a field."""
    if goal[0] == "such":
        return parted_by_and(goal[1]), parted_by_and(goal[2])
    return parted_by_and(goal), []
