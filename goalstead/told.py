"""Told lists, looked up by calls."""

from goalstead.fields import points_of


def key_of(thing):
    """A text that stands for a call or a row in dicts: their tuples may be too deep for that."""
    return repr(thing)


class Told:
    """What a walk is handed: the rows that are told of calls, by the calls' keys."""

    def __init__(self, pairs):
        self.points = {}
        self.rows = {}
        for call, rows in pairs:
            self.rows[key_of(call)] = rows

    def rows_of(self, key):
        """The rows that a relation goal goes through."""
        return self.rows.get(key, [])

    def final_rows_of(self, key):
        """The rows that a not is held against, or None where they are not known yet."""
        return self.rows_of(key)

    def field_points(self, box, tests):
        """The points of a box at which tests hold, found once however often a field is come to."""
        key = key_of((box, tests))
        if key not in self.points:
            self.points[key] = points_of(box, tests)
        return self.points[key]
