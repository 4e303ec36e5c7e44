"""[20]: the lines of each kind, read_line; [17] and [12] of lines."""

import unittest

from goalstead.errors import BadPiece, BadShape, BadSize
from goalstead.reader import read_line
from tests import oracle
from tests.helpers import ReadCase, chained, deep, near_misses, sized

KEPT = ("op", "mode", "table", "not", "is", "in", "such", "and", "=", "<", "=<", "==", "=/=", "..", "<-")


class LineCase(ReadCase):
    read = staticmethod(read_line)


class BlankTest(LineCase):
    def test_without_pieces(self):
        self.told("", ("blank",))
        self.told("      ", ("blank",))
        self.assertEqual(read_line("", [], most=0), ("blank",))


class OpTest(LineCase):
    def test_each_level_and_side(self):
        for level in range(1, 10):
            for side in ("left", "right", "none", "ahead"):
                self.told(f"op {level} {side} &", ("op", level, side, "&"))
                self.told(f" op  {level} {side}  neg ", ("op", level, side, "neg"))

    def test_names_of_words_and_marks_whichever(self):
        for name in KEPT + ("+", "mod", "a", "a1", "left", "ahead", "out", "&&&", "->", "."):
            self.told(f"op 5 left {name}", ("op", 5, "left", name), [(5, "left", "a")])
        self.told("op 5left+", ("op", 5, "left", "+"))

    def test_whatever_the_operator_is_beside_those_handed_in(self):
        told = [(5, "left", f"w{k}") for k in range(12)]
        self.told("op 5 right w0", ("op", 5, "right", "w0"), told)
        self.told("op 4 none +", ("op", 4, "none", "+"), told)

    def test_what_is_none(self):
        self.all_refused(
            "op", "op 5", "op 5 left", "op 5 left &  &", "op 5 left & 5", "op 0 left &", "op 10 left &", "op ~1 left &",
            "op 55 left &",
            "op a left &", "op X left &", "op 5 middle &", "op 5 Left &", "op 5 between &", "op 5 5 &", "op 5 not &",
            "op left 5 &",
            "op 5 & left", "op 5 left X", "op 5 left 5", "op 5 left (", "op 5 left )", "op 5 left ,", "op 5 left ~5",
            "op 5 left (&)",
            "op(5, left, &)", "op 5, left, &", "op <- a", "op(a)", "op = a", "op 5 left a <- b", "op op op op",
            "op 1 ahead", "op 5 left &, &",
            "op , left &", "op 5 , &", "op 5 + &",
        )


class ModeTest(LineCase):
    def test_modes_of_none_to_four_places(self):
        self.told("mode rain", ("mode", "rain", ""))
        for mode in ("+", "-", "++", "+-", "-+", "--", "+-+", "-+-", "---", "++++", "----", "+--+", "-++-"):
            places = ", ".join(["in" if sign == "+" else "out" for sign in mode])
            self.told(f"mode f({places})", ("mode", "f", mode))
            self.told(f"mode + ( {places} )", ("mode", "+", mode))
            self.told(f" mode  a1({places.replace(' ', '')})", ("mode", "a1", mode))

    def test_names(self):
        told = [(5, "left", "and1"), (5, "ahead", "neg"), (5, "left", "&")]
        for name in ("+", "-", "*", "//", "mod", "and1", "neg", "&", "&&&", "left", "out", "ahead", "mod1", ">"):
            self.told(f"mode {name}(in, out)", ("mode", name, "+-"), told)
            self.told(f"mode {name}", ("mode", name, ""), told)
        for name in KEPT:
            self.refused(BadShape, f"mode {name}(in, out)", told)
            self.refused(BadShape, f"mode {name}", told)

    def test_what_is_none(self):
        self.all_refused(
            "mode", "mode f(", "mode f()", "mode f(in", "mode f in", "mode f(in))", "mode f((in))",
            "mode f(in, in, in, in, in)",
            "mode f(in,)", "mode f(,in)", "mode f(in out)", "mode f(in,, out)", "mode f(+)", "mode f(+, -)",
            "mode f(a)", "mode f(In)",
            "mode f(in, Out)", "mode f(1)", "mode X", "mode X(in)", "mode 5", "mode 5(in)", "mode (f)", "mode (",
            "mode ,", "mode f g",
            "mode f <- a", "mode <- a", "mode = a", "mode(f)", "mode f(in) <- a", "mode f(in), g(in)",
            "mode f(in & out)",
            "mode f)in(", "mode f,in,", "mode f(in(", "mode f(in, out, in, out, in)", "mode f(in)(out)",
            "mode f(in + out)", "mode f(not)",
            "mode ~5", "mode f(in,in", "mode f,in)", "mode f(out) in",
        )


class TableTest(LineCase):
    def test_names_and_places(self):
        for places in range(5):
            self.told(f"table path {places}", ("table", "path", places))
            self.told(f" table  => {places} ", ("table", "=>", places))
        told = [(5, "ahead", "neg"), (5, "left", "&")]
        for name in ("+", "mod", "neg", "&", "left", "in1", "out"):
            self.told(f"table {name} 2", ("table", name, 2), told)
        for name in KEPT:
            self.refused(BadShape, f"table {name} 2", told)

    def test_what_is_none(self):
        self.all_refused(
            "table", "table f", "table 2", "table f 5", "table f ~1", "table f 22", "table f 10", "table f X",
            "table f a", "table f 2 2",
            "table f(2)", "table X 2", "table 2 2", "table ( 2", "table , 2", "table f, 2", "table f (2)", "table f/2",
            "table f / 2",
            "table (f) 2", "table <- a", "table(f, 2)", "table f 2 <- a", "table = 2", "table f +", "table f 2,",
            "table f ~2", "table f (",
        )


class ClauseTest(LineCase):
    def test_heads_alone(self):
        self.told("rain", ("clause", "rain", ()))
        self.told("path(a, X)", ("clause", ("path", "a", "X"), ()))
        self.told("a + b", ("clause", ("+", "a", "b"), ()))
        self.told("(rain)", ("clause", "rain", ()))
        self.told("ops", ("clause", "ops", ()))
        self.told("a & b", ("clause", ("&", "a", "b"), ()), [(5, "left", "&")])
        self.told("neg a", ("clause", ("neg", "a"), ()), [(5, "ahead", "neg")])
        self.all_refused("5", "X", "~5", "(X)", "a = b", "not a", "X is 1", "1 < 2", "X in 1 .. 2", "a and b",
                         "f(not a)", "f(1 .. 2)",
                         "a b", "a, b", "is", "f(", "not", "X(a)", "a & b", "such", "(op)", "and", "in", "1 .. 2",
                         "f(table)")

    def test_one_to_six_goals_and_seven(self):
        for many in range(1, 7):
            self.told("a <- " + ", ".join(["b(X)"] * many), ("clause", "a", (("b", "X"),) * many))
        self.all_refused("a <- " + ", ".join(["b(X)"] * 7), "a <- " + ", ".join(["b"] * 8),
                         "a <- " + ", ".join(["b"] * 60))

    def test_goals_of_each_kind(self):
        line = "f(X, Y)<-g(X, 1),not h(Y),Y=a,Z is X+1,Z<5,W in 1 .. Z such W =/= 2"
        wanted = ("clause", ("f", "X", "Y"), (
            ("g", "X", 1), ("not", ("h", "Y")), ("=", "Y", "a"), ("is", "Z", ("+", "X", 1)), ("<", "Z", 5),
            ("such", ("in", "W", ("..", 1, "Z")), ("=/=", "W", 2)),
        ))
        self.told(line, wanted)
        self.assertIs(type(read_line(line, [])[2]), tuple)
        self.told("a <- (b)", ("clause", "a", ("b",)))
        self.told("a + b <- c * d", ("clause", ("+", "a", "b"), (("*", "c", "d"),)))
        self.told("a <- X = (b), (not c)", ("clause", "a", (("=", "X", "b"), ("not", "c"))))

    def test_a_goal_of_the_wrong_shape_in_each_place(self):
        for at in range(6):
            for bad in ("X", "5", "a = b = c", "a and b", "X is a", "not X", "1 .. 2", "", "a b", "op", "<- b",
                        "a <- b", "f(a,)"):
                goals = ["b"] * 6
                goals[at] = bad
                self.refused(BadShape, "a <- " + ", ".join(goals))

    def test_empty_goals(self):
        self.all_refused("a <-", "a <- ", "a <- b,", "a <- ,b", "a <- b,,c", "a <- ,", "a <- b, , c", "a <- ()",
                         "a <- b, ()")

    def test_empty_heads_and_wrong_ones(self):
        self.all_refused("<-", "<- b", "X <- b", "5 <- b", "a, b <- c", "not a <- b", "a = b <- c", "() <- b",
                         "a b <- c", "X is 1 <- b",
                         "f(a = b) <- c", "a and b <- c", "is <- b", "X in 1 .. 2 <- b")

    def test_a_second_arrow(self):
        self.all_refused("a <- b <- c", "a <- <- b", "a <- b, c <- d", "a <- b <-", "<- a <- b", "a <- (b <- c)",
                         "(a <- b)", "a <- f(b <- c)",
                         "(a) <- (b <- c)", "f(a <- b)", "a <- b, <-")

    def test_commas_within_brackets_part_no_goals(self):
        self.told("a <- f(b, c), g(h(d, e), 1)", ("clause", "a", (("f", "b", "c"), ("g", ("h", "d", "e"), 1))))
        self.told("a <- (f(b, c))", ("clause", "a", (("f", "b", "c"),)))
        self.told("a <- X = f(1, 2, 3, 4), b", ("clause", "a", (("=", "X", ("f", 1, 2, 3, 4)), "b")))
        self.told("a <- " + ", ".join(["f(1, 2, 3, 4)"] * 6), ("clause", "a", (("f", 1, 2, 3, 4),) * 6))
        self.all_refused("a <- (b, c)", "a <- f(b, c", "a <- f(b, c))", "a <- b), (c", "a <- ), b", "a <- b, (",
                         "a <- (b), c)", "a <- (b, (c))",
                         "a <- b), c(d", "a <- f(b), (c, d)", "a <- b)(, c")

    def test_operators_that_are_handed_in(self):
        told = [(5, "left", "&"), (5, "ahead", "neg"), (9, "none", "then")]
        self.told("a & neg b <- neg c", ("clause", ("&", "a", ("neg", "b")), (("neg", "c"),)),
                  [(5, "right", "&"), (5, "ahead", "neg")])
        self.told("a then b <- c then d, neg e", ("clause", ("then", "a", "b"), (("then", "c", "d"), ("neg", "e"))),
                  told)
        self.refused(BadShape, "a <- neg", told)
        self.refused(BadShape, "neg <- a", told)
        self.refused(BadShape, "a then b <- c", [])


class NearMissTest(LineCase):
    """Lines with one piece changed, left out or put in, held against the rows of [20]."""

    LINES = (
        "", "op 5 left &", "op 9 ahead neg", "mode rain", "mode f(in, out)", "mode +(out, in, in, out)", "table path 2",
        "rain", "path(a, X)",
        "a <- b", "path(X, Y) <- edge(X, Z), not f(Y)", "a + b <- X is 1, X < Y", "a <- b, b, b, b, b, b",
        "a <- X in 1 .. 2 such X < 1, b",
        "a & b <- - c",
    )
    PIECES = ("op", "mode", "table", "5", "0", "~3", "left", "ahead", "in", "out", "a", "X", "+", "&", "<-", "(", ")",
              ",", "not", "=", "..",
              "f", "-")
    TOLD = [(5, "left", "&"), (5, "ahead", "-")]

    def held(self, row):
        self.assert_told(oracle.line(row, self.TOLD), read_line, " ".join(row), self.TOLD)

    def test_each_piece_changed_left_out_or_put_in(self):
        for line in self.LINES:
            for row in near_misses(oracle.pieces(line), self.PIECES):
                self.held(row)


class LineSizeTest(LineCase):
    def test_sizes_of_the_head_and_of_each_goal(self):
        self.assertEqual(oracle.size(read_line(sized(60), [])[1]), 60)
        self.refused(BadSize, sized(61))
        self.refused(BadSize, f"{sized(61)} <- a")
        for at in range(6):
            goals = ["b"] * 6
            goals[at] = sized(60)
            line = "a <- " + ", ".join(goals)
            self.assertEqual(oracle.size(read_line(line, [])[2][at]), 60)
            goals[at] = sized(61)
            self.refused(BadSize, "a <- " + ", ".join(goals))
            goals[at] = f"not {sized(60)}"
            self.refused(BadSize, "a <- " + ", ".join(goals))

    def test_depths_of_the_head_and_of_each_goal(self):
        self.assertEqual(oracle.depth(read_line(f"{deep(12)} <- {deep(12)}", [])[1]), 12)
        self.refused(BadSize, deep(13))
        self.refused(BadSize, f"{deep(13)} <- a")
        for at in range(6):
            goals = ["b"] * 6
            goals[at] = deep(12)
            self.assertEqual(oracle.depth(read_line("a <- " + ", ".join(goals), [])[2][at]), 12)
            goals[at] = deep(13)
            self.refused(BadSize, "a <- " + ", ".join(goals))
            goals[at] = "X is 1" + " + 1" * 11
            self.refused(BadSize, "a <- " + ", ".join(goals))

    def test_a_whole_line_may_be_greater_than_each_of_its_goals(self):
        line = "a <- " + ", ".join(["f(1, 2, 3, 4)"] * 6)
        self.assertEqual(len(read_line(line, [])[2]), 6)
        told = read_line(f"{chained(6)} <- {chained(6)}, {chained(6)}", [])
        self.assertEqual([oracle.size(told[1]), oracle.size(told[2][0])], [25, 25])
        told = read_line("f(1, (X), ((2)), a) <- " + ", ".join(["X is 1 + 2 + 3 + 4 + 5 + 6 + 7"] * 6), [])
        self.assertEqual([oracle.size(goal) for goal in told[2]], [15] * 6)

    def test_bad_shape_anywhere_goes_ahead_of_bad_size(self):
        for line in (f"{sized(61)} <- X", f"{deep(13)} <- a, b, 5", f"X <- {sized(61)}", f"a <- {sized(61)}, b c",
                     f"a <- X, {deep(13)}",
                     f"a <- {deep(13)},", f"a <- {deep(13)}, b, b, b, b, b, b", f"a = {sized(61)} <- b",
                     f"{deep(13)} <-",
                     f"a <- {deep(13)} <- b"):
            self.refused(BadShape, line)

    def test_bad_piece_then_bad_size_then_bad_shape(self):
        self.assert_refused(BadPiece, {"line": 0, "place": 3}, read_line, "op ; (((((((((((((", [])
        self.assert_refused(BadPiece, {"line": 0, "place": 8}, read_line, "op a b  00", [], most=1)
        self.refused(BadSize, "op a b c d", most=4)
        self.refused(BadShape, "op a b c d", most=5)
        self.refused(BadSize, "mode " + "(" * 13)
        self.refused(BadShape, "mode " + "(" * 12)
        self.refused(BadSize, "a <- <- " + "(" * 13)
        self.refused(BadSize, "table " * 201)
        self.refused(BadShape, "table " * 200)

    def test_most(self):
        self.assertEqual(read_line("op 5 left &", [], most=4), ("op", 5, "left", "&"))
        self.refused(BadSize, "op 5 left &", most=3)
        self.assertEqual(read_line("mode f(in)", [], most=5), ("mode", "f", "+"))
        self.refused(BadSize, "mode f(in)", most=4)
        self.assertEqual(read_line("a <- b", [], most=3), ("clause", "a", ("b",)))
        self.refused(BadSize, "a <- b", most=2)

    def test_two_hundred_pieces(self):
        goals = ["f(1, 2, 3, ((((((((4)))))))))"] * 6
        line = "h((1), 2, 3, 4) <- " + ", ".join(goals)
        wanted = ("clause", ("h", 1, 2, 3, 4), (("f", 1, 2, 3, 4),) * 6)
        self.assertEqual(len(oracle.pieces(line)), 174)
        self.told(line, wanted)
        goals[5] = f"((({goals[5]})))"
        line = "(" * 10 + "h((1), 2, 3, 4)" + ")" * 10 + " <- " + ", ".join(goals)
        self.assertEqual(len(oracle.pieces(line)), 200)
        self.told(line, wanted)
        self.refused(BadSize, line + " a")
        self.refused(BadShape, "a <- " + "b, " * 99)
        self.refused(BadShape, "a <- " + "b(X), " * 39 + "c")
        self.refused(BadShape, "<- " * 200)

    def test_what_was_refused_may_be_asked_again(self):
        for _ in range(2):
            self.refused(BadShape, "a <- ,")
            self.told("a <- b", ("clause", "a", ("b",)))


if __name__ == "__main__":
    unittest.main()
