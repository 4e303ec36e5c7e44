"""What the tests share: how a refusal is looked at."""

import unittest

from goalstead import errors
from goalstead.errors import GoalError
from goalstead.program import Program
from goalstead.reader import read_text


class Case(unittest.TestCase):
    def assert_refused(self, kind, fields, function, *places, **names):
        """The function refuses with just this class, and with these fields."""
        with self.assertRaises(GoalError) as told:
            function(*places, **names)
        error = told.exception
        self.assertIs(type(error), kind)
        for name, worth in fields.items():
            self.assertEqual(getattr(error, name), worth, name)

    def assert_new_each_time(self, function, *places, **names):
        """What is told is the asker's own: changing it changes nothing told later."""
        first = function(*places, **names)
        second = function(*places, **names)
        self.assertEqual(first, second)
        self.assertIsNot(first, second)
        kept = second.copy()
        first.clear()
        self.assertEqual(second, kept)
        self.assertEqual(function(*places, **names), kept)

    def assert_told(self, wanted, function, line, operators):
        """The function tells what stands in the list `wanted`, or refuses by that name in line 0."""
        with self.subTest(line=line, operators=operators):
            handed = list(operators)
            if isinstance(wanted, str):
                self.assert_refused(getattr(errors, wanted), {"line": 0}, function, line, handed)
            else:
                self.assertEqual([function(line, handed)], wanted)
            self.assertEqual(handed, operators)


class ReadCase(Case):
    """Lines that one of the reader's functions reads or refuses."""

    read = None

    def told(self, line, wanted, operators=()):
        self.assert_told([wanted], self.read, line, list(operators))

    def refused(self, kind, line, operators=(), **most):
        with self.subTest(line=line, operators=operators):
            self.assert_refused(kind, {"line": 0}, self.read, line, list(operators), **most)

    def all_refused(self, *lines):
        for line in lines:
            self.refused(errors.BadShape, line)


def chained(times):
    """The text of a term of the size 4 * times + 1 and the depth times + 1."""
    return "f(" * times + "1" + ", X, 1, a)" * times


def sized(size):
    """The text of a term of that size, from 57 to 61, and of the depth 7."""
    rest = size - 57
    last = f"h({', '.join(['b'] * rest)})" if rest else "b"
    return f"g({chained(5)}, {chained(5)}, {chained(3)}, {last})"


def deep(depth):
    """The text of a term of that depth."""
    return "f(" * (depth - 1) + "a" + ")" * (depth - 1)


def near_misses(row, pieces):
    """A row of pieces, and all rows with one piece changed, left out or put in."""
    yield row
    for at in range(len(row) + 1):
        yield row[:at] + row[at + 1:]
        for piece in pieces:
            yield row[:at] + [piece] + row[at:]
            yield row[:at] + [piece] + row[at + 1:]


def rows_of(text):
    """The rows of a text; blanks ahead of its lines and lines without signs are left out."""
    return read_text([line.strip() for line in text.split("\n") if line.strip()])[1]


def program_of(text):
    return Program(rows_of(text))
