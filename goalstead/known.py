"""What is known in a clause goal by goal, and the plan by which its goals are walked."""

from goalstead.goals import field_parts, kind_of, relation_in
from goalstead.terms import parts_at, title_of, unknowns_of


def held(head, goals, mode, modes):
    """The plan of a clause in a mode, and the number of its first ill goal, None where none is ill.

    The modes of each relation are told by its title; the end counts as a goal.
    """
    known = {}
    _learn(known, parts_at(head, mode, "+"))
    plan = []
    for at, goal in enumerate(goals):
        others = [head, *goals[:at], *goals[at + 1:]]
        word = _word_of(goal, known, modes, others)
        if word is None:
            return plan, at + 1
        plan.append(word)
        if kind_of(goal) != "not":
            _learn(known, [goal])
    if not _are_known(parts_at(head, mode, "-"), known):
        return plan, len(goals) + 1
    return plan, None


def _learn(known, patterns):
    for pattern in patterns:
        for unknown in unknowns_of(pattern):
            known[unknown] = True


def _are_known(patterns, known):
    """Whether all unknowns of these patterns are known."""
    for pattern in patterns:
        for unknown in unknowns_of(pattern):
            if unknown not in known:
                return False
    return True


def _word_of(goal, known, modes, others):
    """What the plan says of a goal, or None where the goal is ill."""
    kind = kind_of(goal)
    if kind in ("relation", "not"):
        if kind == "not" and _shares_own(goal, known, others):
            return None
        return _mode_taken(relation_in(goal), known, modes)
    if kind == "likeness":
        return _known_side(goal, known)
    needed = {}
    _learn(needed, [goal[2]] if kind == "reckoning" else [goal])
    if kind == "field":
        ranges, _ = field_parts(goal)
        for part in ranges:
            needed.pop(part[1], None)
    return "" if _are_known(list(needed), known) else None


def _shares_own(goal, known, others):
    """Whether an unknown that is a not's own stands in the head or in another goal."""
    elsewhere = {}
    _learn(elsewhere, others)
    for unknown in unknowns_of(goal):
        if unknown not in known and unknown in elsewhere:
            return True
    return False


def _mode_taken(relation, known, modes):
    """The first mode of a relation whose + places are known in this pattern."""
    for mode in modes[title_of(relation)]:
        if _are_known(parts_at(relation, mode, "+"), known):
            return mode
    return None


def _known_side(goal, known):
    if _are_known([goal[1]], known):
        return "left"
    return "right" if _are_known([goal[2]], known) else None
