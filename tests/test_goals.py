"""[19]: goals, read_goal; [17] of goals."""

import random
import unittest

from goalstead.errors import BadPiece, BadShape, BadSize
from goalstead.reader import read_goal
from tests import oracle
from tests.helpers import ReadCase, chained, deep, near_misses, sized

ONE = ("in", "X", ("..", 1, 3))
TWO = ("in", "Y", ("..", 0, "N"))
THREE = ("in", "Z", ("..", "M", ("+", "M", 9)))
TEST = ("<", "X", "Y")


class GoalCase(ReadCase):
    read = staticmethod(read_goal)


class KindsTest(GoalCase):
    def test_relation_patterns(self):
        self.told("rain", "rain")
        self.told("(rain)", "rain")
        self.told("path(X, b)", ("path", "X", "b"))
        self.told("f(1, ~2, X, g(h))", ("f", 1, -2, "X", ("g", "h")))
        self.told("a + b", ("+", "a", "b"))
        self.told("X mod 2", ("mod", "X", 2))
        self.told("likes & X", ("&", "likes", "X"), [(5, "left", "&")])
        self.told("neg X", ("neg", "X"), [(5, "ahead", "neg")])
        self.all_refused("5", "~5", "X", "(X)", "Rain", "f(a = b)", "f(not a)", "f(1 < 2)", "f(X in 1 .. 2)", "is", "",
                         "a, b", "a <- b", "f(a) g", "1 .. 2", "a and b", "a such b", "and", "rain and rain")

    def test_nots(self):
        self.told("not rain", ("not", "rain"))
        self.told("not path(X, b)", ("not", ("path", "X", "b")))
        self.told("not a + b", ("not", ("+", "a", "b")))
        self.told("not (rain)", ("not", "rain"))
        self.told("(not rain)", ("not", "rain"))
        self.told("not(f(X))", ("not", ("f", "X")))
        self.all_refused("not", "not X", "not 5", "not not a", "not (not a)", "not a = b", "not (a = b)", "not X is 1",
                         "not 1 < 2",
                         "not X in 1 .. 2", "not (X in 1 .. 2)", "not f(not a)", "not(a, b)", "a not b", "f(not)",
                         "not (a and b)", "not (1 .. 2)")

    def test_likenesses(self):
        self.told("X = a", ("=", "X", "a"))
        self.told("1 = 2", ("=", 1, 2))
        self.told("f(X) = g(Y, 1) + h", ("=", ("f", "X"), ("+", ("g", "Y", 1), "h")))
        self.told("X = Y", ("=", "X", "Y"))
        self.told("(a = (b))", ("=", "a", "b"))
        self.all_refused("=", "X =", "= X", "a = b = c", "a = (b = c)", "(a = b) = c", "X = not a", "X = (not a)",
                         "(not a) = X",
                         "X = (1 < 2)", "X = 1 .. 2", "X = (1 .. 2)", "(X is 1) = Y", "X = f(a = b)", "f(1 == 2) = X")

    def test_reckonings(self):
        self.told("X is 1", ("is", "X", 1))
        self.told("X is Y", ("is", "X", "Y"))
        self.told("X is ~3 * Y - 4 // Z mod 5", ("is", "X", ("-", ("*", -3, "Y"), ("mod", ("//", 4, "Z"), 5))))
        self.told("5 is 2 + 3", ("is", 5, ("+", 2, 3)))
        self.told("a is 1", ("is", "a", 1))
        self.told("f(X, Y) is 1", ("is", ("f", "X", "Y"), 1))
        self.told("a + b is (1)", ("is", ("+", "a", "b"), 1))
        self.all_refused("X is a", "X is f(1)", "X is 1 + a", "X is f(1) + 1", "X is", "is 1", "X is Y is Z",
                         "X is (Y is 1)",
                         "(a = b) is 1", "(1 < 2) is 1", "f(not a) is 1", "X is 1 < 2", "X is (1 < 2)", "X is 1 .. 2",
                         "X is (1 .. 2)",
                         "X is not a", "X is 1 + (2 .. 3)", "(X is 1) is 1")
        told = [(5, "ahead", "-"), (5, "left", "&"), (2, "ahead", "+")]
        for line in ("X is - 1", "X is 1 & 2", "X is (1 & 2) + 1", "X is + 1", "X is 1 * + 2", "X is (- Y)"):
            self.refused(BadShape, line, told)

    def test_tests(self):
        for sign in ("<", "=<", "==", "=/="):
            self.told(f"1 {sign} 2", (sign, 1, 2))
            self.told(f"X{sign}Y", (sign, "X", "Y"))
            self.told(f"X + 1 {sign} 2 * Y mod 7", (sign, ("+", "X", 1), ("mod", ("*", 2, "Y"), 7)))
            self.told(f"(X - 1) {sign} (~2)", (sign, ("-", "X", 1), -2))
            self.all_refused(f"a {sign} 1", f"1 {sign} a", f"f(1) {sign} 1", f"1 {sign} f(1)", f"1 {sign}", f"{sign} 1",
                             f"1 {sign} 2 {sign} 3", f"(1 {sign} 2) {sign} 3", f"1 {sign} (2 = 3)", f"1 + a {sign} 1",
                             f"1 {sign} 1 + a", f"1 {sign} (1 .. 2)", f"not 1 {sign} 2", f"1 {sign} 2 and 3 {sign} 4")
        self.all_refused("1 > 2", "1 <= 2", "1 != 2", "1 >= 2")
        self.told("1 > 2", (">", 1, 2), [(5, "left", ">")])
        self.refused(BadShape, "1 < (2 & 3)", [(5, "left", "&")])


class FieldTest(GoalCase):
    def test_one_range(self):
        self.told("X in 1 .. 3", ONE)
        self.told("X in ~3 .. N * 2", ("in", "X", ("..", -3, ("*", "N", 2))))
        self.told("X in N .. N", ("in", "X", ("..", "N", "N")))
        self.told("(X) in (1 .. 3)", ONE)
        self.told("(X in ((1) .. (3)))", ONE)
        self.all_refused("x in 1 .. 3", "5 in 1 .. 3", "f(X) in 1 .. 3", "X in 1", "X in Y", "X in a .. 3",
                         "X in 1 .. a", "X in f(1) .. 3",
                         "X in 1 .. 3 .. 5", "X in", "in 1 .. 3", "X in 1 ..", "X in .. 3", "X in (Y in 1 .. 3)",
                         "X in 1 + a .. 3",
                         "X in f(1, 3)", "X in 1 < 3", "X in (1, 3)", "1 .. 3", "X in (1 = 3)", "X + 1 in 1 .. 3",
                         "X in 1 .. (2 .. 3)")

    def test_two_three_and_four_ranges(self):
        self.told("X in 1 .. 3 and Y in 0 .. N", ("and", ONE, TWO))
        self.told("X in 1 .. 3 and Y in 0 .. N and Z in M .. M + 9", ("and", ONE, ("and", TWO, THREE)))
        self.told("X in 1 .. 3 and (Y in 0 .. N and Z in M .. M + 9)", ("and", ONE, ("and", TWO, THREE)))
        self.told("Y in 0 .. N and X in 1 .. 3", ("and", TWO, ONE))
        self.all_refused("X in 1 .. 3 and Y in 0 .. N and Z in 1 .. 2 and W in 1 .. 2",
                         "X in 1 .. 3 and Y in 0 .. N and Z in 1 .. 2 and W in 1 .. 2 such X < Y",
                         "A in 1 .. 2 and B in 1 .. 2 and C in 1 .. 2 and D in 1 .. 2 and E in 1 .. 2",
                         "(X in 1 .. 3 and Y in 0 .. N) and Z in 1 .. 2",
                         "((X in 1 .. 3 and Y in 0 .. N) and Z in 1 .. 2) such X < Y",
                         "X in 1 .. 3 and a", "a and X in 1 .. 3", "X in 1 .. 3 and X < 2", "X < 2 and X in 1 .. 3",
                         "X in 1 .. 3 and",
                         "and X in 1 .. 3", "X in 1 .. 3 and not a", "X in 1 .. 3, Y in 0 .. N",
                         "X in 1 .. 3 and Y in 0")

    def test_unlike_unknowns(self):
        self.all_refused("X in 1 .. 3 and X in 1 .. 3", "X in 1 .. 3 and X in 4 .. 5",
                         "X in 1 .. 3 and Y in 1 .. 2 and X in 1 .. 2",
                         "Y in 1 .. 3 and X in 1 .. 2 and X in 1 .. 2", "X in 1 .. 3 and X in 1 .. 3 and Y in 1 .. 2",
                         "X in 1 .. 3 and X in 1 .. 3 such X < 2")

    def test_no_unknown_of_a_range_in_a_sum_of_the_box(self):
        self.all_refused("X in X .. 3", "X in 1 .. X", "X in 1 .. X + 1", "X in 2 * (1 - X) .. 3",
                         "X in 1 .. 3 and Y in X .. 3",
                         "X in 1 .. 3 and Y in 1 .. X", "X in 1 .. Y and Y in 1 .. 3", "X in Y .. 9 and Y in 1 .. 3",
                         "X in 1 .. Z and Y in 1 .. 3 and Z in 1 .. 2",
                         "X in 1 .. 2 and Y in 1 .. 3 and Z in 1 .. X mod 2",
                         "X in 1 .. 2 and Y in Z .. 3 and Z in 1 .. 2", "X in 1 .. X such X < 2",
                         "X in 1 .. Y and Y in 1 .. 3 such X < Y")
        self.told("X in N .. M and Y in M .. N", ("and", ("in", "X", ("..", "N", "M")), ("in", "Y", ("..", "M", "N"))))

    def test_one_to_four_tests_and_five(self):
        box = "X in 1 .. 3 such "
        self.told(box + "X < Y", ("such", ONE, TEST))
        self.told(box + "X < Y and 1 == 2", ("such", ONE, ("and", TEST, ("==", 1, 2))))
        self.told(box + "X < Y and 1 == 2 and X =/= N",
                  ("such", ONE, ("and", TEST, ("and", ("==", 1, 2), ("=/=", "X", "N")))))
        self.told(box + "X < Y and X < Y and X < Y and X =< N * 2",
                  ("such", ONE, ("and", TEST, ("and", TEST, ("and", TEST, ("=<", "X", ("*", "N", 2)))))))
        self.told(box + "(X < Y and (X < Y))", ("such", ONE, ("and", TEST, TEST)))
        self.told("(X in 1 .. 3) such (X < Y)", ("such", ONE, TEST))
        self.told("X in 1 .. 3 and Y in 0 .. N such X < Y", ("such", ("and", ONE, TWO), TEST))
        self.told("X in 1 .. 3 and Y in 0 .. N and Z in M .. M + 9 such X < Y and X < Y",
                  ("such", ("and", ONE, ("and", TWO, THREE)), ("and", TEST, TEST)))
        self.all_refused(box + "X < Y and X < Y and X < Y and X < Y and X < Y", box + "1 < 2" + " and 1 < 2" * 6,
                         box + "(X < Y and X < Y) and X < Y")

    def test_what_is_no_test_of_a_field(self):
        box = "X in 1 .. 3 such "
        self.all_refused(box, box + "a", box + "X", box + "5", box + "X = 2", box + "X is 2", box + "not a",
                         box + "a < 2",
                         box + "X < a", box + "X < 2 and a", box + "a and X < 2", box + "X < 2 and X = 1",
                         box + "Y in 1 .. 2",
                         box + "X < 2 and Y in 1 .. 2", box + "X < 2 such X < 3", box + "(X in 1 .. 2 such X < 2)",
                         box + "f(X)",
                         box + "X < f(1)", box + "X < 2 and", box + "and X < 2", "such X < 2", "a such X < 2",
                         "X such X < 2",
                         "X < 2 such X < 2", "X = 1 such X < 2", "(X in 1 .. 3 such X < 2) such X < 3",
                         "X in 1 .. 3 and X < 2 such X < 3",
                         "X in 1 .. 3 and (Y in 1 .. 2 such Y < 2)", "(X in 1 .. 2 such X < 2) and Y in 1 .. 2",
                         "not (X in 1 .. 3 such X < 2)")


class NearMissTest(GoalCase):
    """Goals with one piece changed, left out or put in, held against the rows of [19]."""

    LINES = (
        "rain", "path(X, b)", "not f(X)", "f(X) = g(Y, 1)", "X is Y * 2 - 1", "X + 1 =< Y", "X in 1 .. N",
        "X in 1 .. 2 and Y in N .. 3", "X in 1 .. 2 and Y in 1 .. 2 and Z in 1 .. 2", "X in 1 .. 2 such X < Y",
        "X in 1 .. 2 and Y in 1 .. 2 such X < Y and X == N", "(X in 1 .. 2) such (X < 1 and X < 2 and X < 3 and X < 4)",
        "not (a)", "- X", "a & b",
    )
    PIECES = ("a", "X", "Y", "1", "~2", "(", ")", ",", "+", "mod", "not", "is", "in", "such", "and", "=", "<", "==",
              "..", "<-", "-",
              "&", "f", "op")
    TOLD = [(5, "ahead", "-"), (5, "left", "&")]

    def held(self, row):
        self.assert_told(oracle.goal(row, self.TOLD), read_goal, " ".join(row), self.TOLD)

    def test_each_piece_changed_left_out_or_put_in(self):
        for line in self.LINES:
            for row in near_misses(oracle.pieces(line), self.PIECES):
                self.held(row)

    def test_two_pieces_changed(self):
        chance = random.Random(19)
        for _ in range(3000):
            row = oracle.pieces(chance.choice(self.LINES))
            for _ in range(2):
                row[chance.randrange(len(row))] = chance.choice(self.PIECES)
            self.held(row)


class GoalSizeTest(GoalCase):
    def test_sizes_sixty_and_sixty_one(self):
        for line, size in (
            (sized(60), 60), (f"not {sized(59)}", 60), (f"X = {sized(58)}", 60), (f"{sized(58)} = 1", 60),
            (f"{sized(58)} is 1", 60),
            (f"a + {sized(58)}", 60), (f"({sized(60)})", 60),
        ):
            self.assertEqual(oracle.size(read_goal(line, [])), size)
        for line in (sized(61), f"not {sized(60)}", f"X = {sized(59)}", f"{sized(59)} = 1", f"{sized(59)} is 1",
                     f"a + {sized(59)}",
                     f"f({sized(60)})"):
            self.refused(BadSize, line)

    def test_sizes_of_tests_and_fields(self):
        sum_of_15 = "(X + 1 + 2 + 3) * (X + 1 + 2 + 3)"
        sum_of_29 = f"({sum_of_15}) - (X * 2 * 3 * 4 * 5 * 6 * 7)"
        self.assertEqual(oracle.size(read_goal(f"{sum_of_29} < {sum_of_29}", [])), 59)
        self.refused(BadSize, f"{sum_of_29} < {sum_of_29} + 1")
        self.assertEqual(oracle.size(read_goal(f"A in 1 .. {sum_of_29} such A < {sum_of_15} * (1 - 2 - 3 - 4)", [])),
                         59)
        self.refused(BadSize, f"A in 1 .. {sum_of_29} such A < {sum_of_15} * (1 - 2 - 3 - 4 - 5)")

    def test_depths_twelve_and_thirteen(self):
        for line in (deep(12), f"not {deep(11)}", f"X = {deep(11)}", f"{deep(11)} is 1", "X is 1" + " + 1" * 10,
                     "1 < 1" + " + 1" * 10,
                     "X in 1 .. 1" + " + 1" * 9, "X in 1 .. 1 such 1 < 1" + " + 1" * 9,
                     "X in 1 .. 2 such 1 < 2 and 1 < 2 and 1 < 2 and 1 < 1" + " + 1" * 6):
            with self.subTest(line):
                self.assertEqual(oracle.depth(read_goal(line, [])), 12)
        for line in (deep(13), f"not {deep(12)}", f"X = {deep(12)}", f"{deep(12)} is 1", "X is 1" + " + 1" * 11,
                     "1 < 1" + " + 1" * 11,
                     "X in 1 .. 1" + " + 1" * 10, "X in 1 .. 1 such 1 < 1" + " + 1" * 10,
                     "X in 1 .. 2 such 1 < 2 and 1 < 2 and 1 < 2 and 1 < 1" + " + 1" * 7):
            self.refused(BadSize, line)

    def test_refusals_in_their_order(self):
        self.assert_refused(BadPiece, {"line": 0, "place": 5}, read_goal, "a b (07", [], most=1)
        self.refused(BadSize, "a b c", most=2)
        self.refused(BadSize, "not " + "(" * 13)
        self.refused(BadShape, f"not not {deep(12)}")
        self.refused(BadShape, f"X is {deep(12)}")
        self.refused(BadShape, "X is a" + " + 1" * 30)
        self.refused(BadShape, "a < 1" + " + 1" * 30)
        self.refused(BadShape, f"X = {chained(12)} = Y")
        self.refused(BadShape, "X in 1 .. X" + " + 1" * 30)
        self.refused(BadShape, "X in 1 .. 3 such X < 1" + " and X < 1" * 30)
        self.refused(BadSize, "X in 1 .. Y" + " + 1" * 30)

    def test_most(self):
        self.assertEqual(read_goal("X is 1", [], most=3), ("is", "X", 1))
        self.refused(BadSize, "X is 1", most=2)

    def test_handed_operators_stay(self):
        handed = [(5, "left", "&")]
        read_goal("a & b", handed)
        self.assertEqual(handed, [(5, "left", "&")])
        for _ in range(2):
            self.refused(BadShape, "a b")
            self.told("a & b", ("&", "a", "b"), handed)


if __name__ == "__main__":
    unittest.main()
