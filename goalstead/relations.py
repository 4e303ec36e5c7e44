"""Relations that come to one another by their clauses, and their layers."""

from goalstead.goals import kind_of, titles_in
from goalstead.terms import title_of


def reached_from(start, named):
    """All that is reached from a start, itself too, by what each thing names."""
    reached = {start: True}
    waiting = [start]
    while waiting:
        thing = waiting.pop()
        for other in named[thing]:
            if other not in reached:
                reached[other] = True
                waiting.append(other)
    return reached


def layers_of(clauses):
    """The least layers of relations, of those that are not told nought.

    No not may lie on a ring, or the layers would rise without end.
    """
    bounds = _bounds_of(clauses)
    layers = {}
    rising = True
    while rising:
        rising = False
        for title, other, step in bounds:
            least = layers.get(other, 0) + step
            if layers.get(title, 0) < least:
                layers[title] = least
                rising = True
    return layers


def _bounds_of(clauses):
    """Triples: the first relation's layer is at least the second's and the step."""
    bounds = []
    for head, goals in clauses:
        for goal, title in zip(goals, titles_in(goals)):
            if title is not None:
                bounds.append((title_of(head), title, 1 if kind_of(goal) == "not" else 0))
    return bounds
