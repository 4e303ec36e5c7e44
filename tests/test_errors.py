"""[3]: the error classes."""

import unittest

from goalstead import errors
from goalstead.errors import GoalError

FIELDS = {
    "BadPiece": ("line", "place"), "BadSize": ("line",), "BadShape": ("line",), "BadOperator": ("line",),
    "Modeless": ("line", "goal"), "Ill": ("line", "mode", "goal"), "Mixed": ("line",), "Notring": ("line",),
    "NoCall": (), "Open": (), "Round": (), "NoTurn": (), "NoRow": (), "NoMode": (), "NoPaper": (),
    "NoAnswer": (), "NoPlace": (), "NoRoom": (), "NoStep": (), "Taken": (), "NoName": (),
}
WORTHS = {"line": 7, "place": 31, "goal": 4, "mode": "+-"}


def made(name):
    return getattr(errors, name)(*[WORTHS[field] for field in FIELDS[name]])


class ErrorsTest(unittest.TestCase):
    def test_goal_error_stands_straight_beneath_value_error(self):
        self.assertEqual(GoalError.__bases__, (ValueError,))
        self.assertEqual(GoalError.__name__, "GoalError")

    def test_each_class_by_its_own_name_straight_beneath_goal_error(self):
        for name in FIELDS:
            with self.subTest(name):
                kind = getattr(errors, name)
                self.assertEqual(kind.__name__, name)
                self.assertEqual(kind.__bases__, (GoalError,))

    def test_each_is_raised_and_caught_as_itself_and_as_none_of_the_others(self):
        for name in FIELDS:
            for other in FIELDS:
                with self.subTest(name=name, other=other):
                    error = made(name)
                    self.assertIsInstance(error, GoalError)
                    self.assertIsInstance(error, ValueError)
                    self.assertEqual(isinstance(error, getattr(errors, other)), name == other)

    def test_each_can_be_raised(self):
        for name in FIELDS:
            with self.subTest(name):
                with self.assertRaises(getattr(errors, name)):
                    raise made(name)
                with self.assertRaises(GoalError):
                    raise made(name)
                with self.assertRaises(ValueError):
                    raise made(name)

    def test_fields_by_the_places_in_which_they_are_handed_in(self):
        for name, fields in FIELDS.items():
            error = made(name)
            for field in fields:
                with self.subTest(name=name, field=field):
                    self.assertEqual(getattr(error, field), WORTHS[field])

    def test_fields_have_the_names_that_the_interface_gives(self):
        error = errors.Ill(2, "-+", 3)
        self.assertEqual((error.line, error.mode, error.goal), (2, "-+", 3))
        error = errors.BadPiece(5, 0)
        self.assertEqual((error.line, error.place), (5, 0))
        error = errors.Modeless(59, 6)
        self.assertEqual((error.line, error.goal), (59, 6))

    def test_two_errors_of_a_class_have_fields_of_their_own(self):
        one, two = errors.BadPiece(1, 2), errors.BadPiece(3, 4)
        self.assertEqual((one.line, one.place, two.line, two.place), (1, 2, 3, 4))


if __name__ == "__main__":
    unittest.main()
