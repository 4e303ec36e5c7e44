"""[15] to [18]: readings, BadShape, BadSize by size and depth, read_term."""

import itertools
import random
import unittest

from goalstead.errors import BadPiece, BadShape, BadSize
from goalstead.reader import read_goal, read_term
from tests import oracle
from tests.helpers import ReadCase, chained, deep, sized

# By level, the sides that an operator between may be told with.
SIDES = {
    1: ["left", "right", "none"], 2: ["left", "right", "none"], 3: ["left"], 4: ["left"],
    5: ["left", "right", "none"], 6: ["none"], 7: ["none"], 8: ["right"], 9: ["none"],
}
BETWEEN = [(level, side) for level in SIDES for side in SIDES[level]]


class TermCase(ReadCase):
    read = staticmethod(read_term)

    def as_told(self, row, operators):
        self.assert_told(oracle.term(row, operators), read_term, " ".join(row), operators)


class ReadingTest(TermCase):
    def test_level_nought(self):
        for line, wanted in (
            ("5", 5), ("0", 0), ("~5", -5), ("1" * 60, int("1" * 60)), ("~" + "9" * 60, 1 - 10 ** 60),
            ("a", "a"), ("X", "X"), ("Ab1", "Ab1"), ("left", "left"), ("  a ", "a"), ("out", "out"), ("ahead", "ahead"),
            ("f(a)", ("f", "a")), ("f (a)", ("f", "a")), ("f(1,X,~2)", ("f", 1, "X", -2)),
            ("f(a, b, c, d)", ("f", "a", "b", "c", "d")),
            ("f(g(1), h(X, g(2)))", ("f", ("g", 1), ("h", "X", ("g", 2)))),
            ("(a)", "a"), ("((X))", "X"), ("(((((f((1)))))))", ("f", 1)), ("(~7)", -7),
        ):
            self.told(line, wanted)

    def test_tuples_of_one_to_four_parts_and_of_five_and_none(self):
        for many in (1, 2, 3, 4):
            self.told(f"f({', '.join('abcd'[:many])})", ("f", *"abcd"[:many]))
        for line in ("f(a, b, c, d, e)", "f()", "f( )", "()", "f(())", "f(a, ())", "f(a,)", "f(,a)", "f(a,,b)", "f(,)",
                     "(a, b)",
                     "f((a, b))", "f(a b)", "f(a)(b)", "f(a) b", "X(a)", "5(a)", "(f)(a)", "f(a", "f a)", "f)a(",
                     "f(a))",
                     "f(", "f(a,", "a)", "(a", ")", "(", ",", "a,b", "+(a, b)", "&(a)"):
            self.refused(BadShape, line)

    def test_no_pieces_have_no_reading(self):
        self.refused(BadShape, "")
        self.refused(BadShape, "   ")

    def test_pieces_side_by_side_have_none(self):
        for line in ("a b", "1 2", "a X", "12ab", "aB", "X Y", "a ~1", "1 ~2", "(a) b", "a (b) c", "1 (2)", "X (a)"):
            self.refused(BadShape, line)

    def test_left(self):
        self.told("a - b - c", ("-", ("-", "a", "b"), "c"))
        self.told("a - b + c - d", ("-", ("+", ("-", "a", "b"), "c"), "d"))
        self.told("a // b * c mod d", ("mod", ("*", ("//", "a", "b"), "c"), "d"))
        self.told("a - (b - c)", ("-", "a", ("-", "b", "c")))
        self.told("(a - b) - c", ("-", ("-", "a", "b"), "c"))

    def test_right(self):
        told = [(5, "right", "=>")]
        self.told("a => b => c", ("=>", "a", ("=>", "b", "c")), told)
        self.told("(a => b) => c", ("=>", ("=>", "a", "b"), "c"), told)
        self.told("a => b => c => d", ("=>", "a", ("=>", "b", ("=>", "c", "d"))), told)
        self.told("a & b & c", ("&", "a", ("&", "b", "c")), [(8, "right", "&")])

    def test_none(self):
        told = [(5, "none", "=>"), (5, "none", "->")]
        self.told("a => b", ("=>", "a", "b"), told)
        self.told("(a => b) => c", ("=>", ("=>", "a", "b"), "c"), told)
        self.told("a => (b -> c)", ("=>", "a", ("->", "b", "c")), told)
        for line in ("a => b => c", "a => b -> c", "a => b => c => d", "a + b => c => d", "a => b + c => d"):
            self.refused(BadShape, line, told)
        self.refused(BadShape, "a & b & c", [(9, "none", "&")])

    def test_lower_levels_bind_closer(self):
        self.told("a + b * c", ("+", "a", ("*", "b", "c")))
        self.told("a * b + c", ("+", ("*", "a", "b"), "c"))
        self.told("a * (b + c)", ("*", "a", ("+", "b", "c")))
        self.told("(a + b) * c", ("*", ("+", "a", "b"), "c"))
        self.told("a + b * c - d", ("-", ("+", "a", ("*", "b", "c")), "d"))
        self.told("a => b + c ^ d => e", ("=>", "a", ("=>", ("+", "b", ("^", "c", "d")), "e")),
                  [(5, "right", "=>"), (1, "left", "^")])
        self.told("f(a + b, (c), d * e)", ("f", ("+", "a", "b"), "c", ("*", "d", "e")))

    def test_ahead(self):
        told = [(2, "ahead", "-"), (5, "ahead", "neg")]
        self.told("- a", ("-", "a"), told)
        self.told("-a", ("-", "a"), told)
        self.told("- 5", ("-", 5), told)
        self.told("-~5", ("-", -5), told)
        self.told("neg - a", ("neg", ("-", "a")), told)
        self.told("neg a + b", ("neg", ("+", "a", "b")), told)
        self.told("- a + b", ("+", ("-", "a"), "b"), told)
        self.told("a - - b", ("-", "a", ("-", "b")), told)
        self.told("a * - b", ("*", "a", ("-", "b")), told)
        self.told("- a - - b - c", ("-", ("-", ("-", "a"), ("-", "b")), "c"), told)
        self.told("-(a)", ("-", "a"), told)
        self.told("-(a + b)", ("-", ("+", "a", "b")), told)
        self.told("neg(a)", ("neg", "a"), told)
        self.told("neg(a) + b", ("neg", ("+", "a", "b")), told)
        self.told("(neg a) + b", ("+", ("neg", "a"), "b"), told)
        self.told("f(neg a)", ("f", ("neg", "a")), told)
        for line in ("- - a", "neg neg a", "- neg a", "a + neg b", "- (a, b)", "neg(a, b)", "-", "neg", "a -",
                     "a neg b", "neg a b",
                     "- + a", "a - - - b"):
            self.refused(BadShape, line, told)

    def test_ahead_takes_only_lower_levels(self):
        self.told("p a & b", ("&", ("p", "a"), "b"), [(5, "ahead", "p"), (5, "left", "&")])
        self.refused(BadShape, "p a & b", [(5, "ahead", "p"), (5, "right", "&")])
        self.refused(BadShape, "p a & b", [(5, "ahead", "p"), (5, "none", "&")])
        self.told("a & p b", ("&", "a", ("p", "b")), [(5, "ahead", "p"), (5, "right", "&")])
        self.refused(BadShape, "a & p b", [(5, "ahead", "p"), (5, "left", "&")])
        self.refused(BadShape, "a & p b", [(5, "ahead", "p"), (5, "none", "&")])

    def test_an_operators_name_stands_for_nothing_else(self):
        told = [(5, "left", "plus"), (5, "ahead", "neg"), (1, "left", "ab"), (2, "ahead", "ab")]
        for line in ("plus", "neg", "mod", "plus(a)", "plus(a, b)", "mod(a, b)", "neg(a, b)", "f(plus)", "a plus plus",
                     "neg neg",
                     "a plus neg", "plus plus plus", "mod mod mod", "a mod", "mod a", "f(neg)", "ab", "ab(a, b)",
                     "(plus)", "is",
                     "in", "such", "and", "not", "op", "mode", "table", "op(a)", "is(a, b)", "f(table)", "mode(in)",
                     "a op b",
                     "+", "a +", "+ a", "(+)", "f(+)", "=", "<-", "a <- b"):
            self.refused(BadShape, line, told)
        self.told("a plus b", ("plus", "a", "b"), told)
        self.told("plus", "plus")
        self.told("neg(a, b)", ("neg", "a", "b"))
        self.told("c ab d", ("ab", "c", "d"), told)

    def test_an_operator_that_stands_both_between_and_ahead(self):
        told = [(2, "ahead", "ab"), (5, "left", "ab")]
        self.told("ab a", ("ab", "a"), told)
        self.told("a ab b", ("ab", "a", "b"), told)
        self.told("ab a ab b", ("ab", ("ab", "a"), "b"), told)
        self.told("a ab ab b", ("ab", "a", ("ab", "b")), told)
        self.told("ab a ab ab b ab c", ("ab", ("ab", ("ab", "a"), ("ab", "b")), "c"), told)
        for line in ("ab", "ab ab", "ab ab a", "a ab", "a ab ab ab b", "ab(a, b)"):
            self.refused(BadShape, line, told)

    def test_needless_brackets(self):
        for line in ("a - b - c", "(a - b) - c", "((a) - (b)) - c", "(((a - b)) - c)", "((a - b) - (c))", "( a-b)-c"):
            self.told(line, ("-", ("-", "a", "b"), "c"))
        self.told("f((a + b), ((X)))", ("f", ("+", "a", "b"), "X"))
        self.told("(" * 12 + "a" + ")" * 12, "a")

    def test_own_operators_need_not_be_told_and_told_ones_must_be(self):
        self.told("a mod b", ("mod", "a", "b"), [])
        self.refused(BadShape, "a & b", [])
        self.refused(BadShape, "a & b", [(5, "ahead", "&")])
        self.refused(BadShape, "& b", [(5, "left", "&")])

    def test_handed_operators_and_told_ones_have_nothing_in_common(self):
        handed = [(5, "left", "&")]
        self.told("a & b", ("&", "a", "b"), handed)
        self.refused(BadShape, "a & b", [])
        self.assertEqual(handed, [(5, "left", "&")])


class EachReadingTest(TermCase):
    """What is read is what the rows of [15] let be read, looked for in all ways."""

    def test_all_short_rows_of_pieces(self):
        told = [(5, "ahead", "p"), (8, "ahead", "q"), (4, "ahead", "+"), (5, "right", "&")]
        for many in range(1, 5):
            for row in itertools.product(["a", "(", ")", ",", "+", "*", "&", "p", "q", "="], repeat=many):
                self.as_told(list(row), told)
        for row in itertools.product(["a", "(", ")", ",", "+", "&", "p"], repeat=5):
            self.as_told(list(row), told)

    def test_two_operators_between_on_each_level_with_each_side(self):
        for (one, side), (two, other) in itertools.product(BETWEEN, repeat=2):
            if one == two and side != other:
                continue
            told = [(one, side, "o"), (two, other, "u")]
            for line in ("a o b", "a o b o c", "a o b u c", "a u b o c u d", "(a o b) u c", "a o (b u c)", "a o b + c",
                         "a * b u c"):
                self.as_told(oracle.pieces(line), told)

    def test_ahead_on_each_level_beside_between_on_each(self):
        for (level, side), ahead, other in itertools.product(BETWEEN, range(1, 10), (1, 4, 9)):
            told = [(level, side, "o"), (ahead, "ahead", "p"), (other, "ahead", "q")]
            for line in ("p a", "p q a", "p p a", "p a o b", "a o p b", "p (a o b)", "(p a) o b", "p a o q b",
                         "a o p b o c"):
                self.as_told(oracle.pieces(line), told)

    def test_long_rows_of_any_operators(self):
        chance = random.Random(15)
        for _ in range(1500):
            told = [(level, chance.choice(SIDES[level]), f"o{level}") for level in SIDES if chance.random() < 0.7]
            told += [(chance.randint(1, 9), "ahead", name) for name in ("p", "o5", "q")]
            row = some_row(chance, told, 3)[:14]
            if chance.random() < 0.3:
                row[chance.randrange(len(row))] = chance.choice(["a", "(", ")", ",", "p", "o5", "mod"])
            self.as_told(row, told)


def some_row(chance, told, depth):
    """Pieces that are a reading but for the levels of their operators."""
    if depth == 0 or chance.random() < 0.2:
        return [chance.choice(["a", "b", "X", "7", "~1"])]
    kind = chance.random()
    if kind < 0.15:
        return ["(", *some_row(chance, told, depth - 1), ")"]
    if kind < 0.25:
        return ["f", "(", *some_row(chance, told, depth - 1), ",", *some_row(chance, told, depth - 1), ")"]
    if kind < 0.45:
        return [chance.choice(["p", "o5", "q"]), *some_row(chance, told, depth - 1)]
    names = [name for level, side, name in told + oracle.OWN[11:] if side != "ahead"]
    return [*some_row(chance, told, depth - 1), chance.choice(names), *some_row(chance, told, depth - 1)]


class TermTest(TermCase):
    def test_no_kept_word_and_no_kept_mark_in_a_pattern(self):
        for line in ("not a", "a = b", "X is 1", "1 < 2", "1 =< 2", "1 == 2", "1 =/= 2", "1 .. 2", "X in 1 .. 2",
                     "a and b",
                     "X in 1 .. 2 such X < 2", "X in Y", "a such b", "f(not a)", "f(a = b)", "f(1, g(1 < 2))",
                     "a + (b = c)",
                     "(a and b) * c", "(not a)", "f(X, Y, Z, 1 .. 2)", "- (1 is 2)", "f((a, b))"):
            self.refused(BadShape, line, [(5, "ahead", "-")])

    def test_own_operators_that_are_not_kept_may_stand_in_a_pattern(self):
        for name in ("+", "-", "*", "//", "mod"):
            self.told(f"f(a {name} X)", ("f", (name, "a", "X")))

    def test_sizes_sixty_and_sixty_one(self):
        for size in (57, 58, 59, 60):
            told = read_term(sized(size), [])
            self.assertEqual((oracle.size(told), oracle.depth(told)), (size, 7))
        self.refused(BadSize, sized(61))
        self.told(f"({sized(60)})", read_term(sized(60), []))
        self.refused(BadSize, f"a + {sized(59)}")
        self.assertEqual(oracle.size(read_term(f"a + {sized(58)}", [])), 60)
        self.assertEqual(oracle.size(read_term(f"- {sized(59)}", [(5, "ahead", "-")])), 60)
        self.refused(BadSize, f"- {sized(60)}", [(5, "ahead", "-")])

    def test_depths_twelve_and_thirteen(self):
        self.told(deep(12), read_term(f"({deep(12)})", []))
        self.assertEqual(oracle.depth(read_term(deep(12), [])), 12)
        self.refused(BadSize, deep(13))
        self.assertEqual(oracle.depth(read_term("1" + " + X" * 11, [])), 12)
        self.refused(BadSize, "1" + " + X" * 12)
        self.refused(BadSize, "1" + " + X" * 40)
        self.assertEqual(oracle.depth(read_term(chained(11), [])), 12)
        self.refused(BadSize, chained(12))
        self.assertEqual(oracle.depth(read_term("a" + " => a" * 11, [(5, "right", "=>")])), 12)
        self.refused(BadSize, "a" + " => a" * 12, [(5, "right", "=>")])

    def test_brackets_have_no_size_and_no_depth(self):
        self.told("((((((((((((a))))))))))))", "a")
        self.told("f(" * 6 + "(" * 6 + "a" + ")" * 12, read_term(deep(7), []))

    def test_bad_piece_then_bad_size_then_bad_shape_then_bad_size(self):
        self.assert_refused(BadPiece, {"line": 0, "place": 3}, read_term, "a b; ((((((((((((((", [])
        self.assert_refused(BadPiece, {"line": 0, "place": 4}, read_term, "a b 00", [], most=1)
        self.refused(BadSize, "a b c", most=2)
        self.refused(BadSize, "(" * 13)
        self.refused(BadShape, "(" * 12)
        self.refused(BadShape, f"a b {chained(12)}")
        self.refused(BadShape, f"a = {chained(12)}")
        self.refused(BadShape, "1 = 1" + " + X" * 40)
        self.refused(BadShape, "not 1" + " + X" * 40)
        self.refused(BadShape, f"{sized(61)} b")
        self.refused(BadShape, f"{sized(61)} =")
        self.refused(BadShape, f"f({sized(61)}, not a)")

    def test_most(self):
        self.told("f(a)", ("f", "a"))
        self.assertEqual(read_term("f(a)", [], most=4), ("f", "a"))
        self.refused(BadSize, "f(a)", most=3)
        self.refused(BadShape, "", most=0)
        self.refused(BadSize, "a", most=0)

    def test_what_was_refused_may_be_asked_again(self):
        for _ in range(2):
            self.refused(BadShape, "a b")
            self.refused(BadSize, deep(13))
            self.told("a + b", ("+", "a", "b"))


class LongLineTest(TermCase):
    """Lines of 200 pieces and 12 open brackets are read, or refused, as any other."""

    def test_two_hundred_pieces_with_a_reading(self):
        atoms = ["(" * times + "1" + ")" * times for times in [9] * 4 + [4] * 10 + [0] * 2]
        rows = [f"g({','.join(atoms[at:at + 4])})" for at in range(0, 16, 4)]
        line = f"f({','.join(rows)})"
        self.assertEqual(len(oracle.pieces(line)), 198)
        inner = ("g", 1, 1, 1, 1)
        self.told(line, ("f", inner, inner, inner, inner))
        self.told(f"({line})", ("f", inner, inner, inner, inner))
        self.refused(BadSize, f"(({line}))")

    def test_two_hundred_pieces_with_a_reading_that_is_too_deep(self):
        for sign, side in (("+", "left"), ("&", "right")):
            told = [(4, "left", "&")] if side == "left" else [(5, "right", "&")]
            self.refused(BadSize, "a " + f"{sign} a " * 99, told)
            self.refused(BadSize, f"({'a ' + f'{sign} a ' * 98})", told)
        self.refused(BadSize, "f(" + "a + " * 90 + "a)")

    def test_two_hundred_pieces_without_a_reading(self):
        told = [(5, "none", "=>"), (5, "ahead", "p"), (1, "right", "^")]
        for line in ("a " * 200, "a " + "+ a " * 99 + "+", "a " + "=> a " * 99, "p " * 199 + "a",
                     "(" * 12 + "a " + "+ a " * 90,
                     "f(" * 12 + "a, " * 80, "f(a, " * 12 + "a " + "^ a " * 60, "(a + " * 12 + "a b" + ")" * 12,
                     "(" * 12 + "a b" + ")" * 12, "((a) + " * 11 + "+" + ")" * 11, "a ^ " * 100, ") " * 200,
                     ", " * 200):
            self.refused(BadShape, line, told)

    def test_twelve_open_brackets(self):
        self.told("(1 + " * 11 + "(a)" + ")" * 11, read_term("1 + (" * 11 + "a" + ")" * 11, []))
        self.refused(BadShape, "(" * 12 + "a = b = c" + ")" * 12)
        self.refused(BadShape, "f(1, (" * 6 + "a b" + "))" * 6)
        self.refused(BadSize, "(" * 13 + "a" + ")" * 13)


class GoalReadingTest(ReadCase):
    """The kept operators are read likewise; goals show it."""

    read = staticmethod(read_goal)

    def test_levels_of_the_own_operators(self):
        span = ("..", 1, ("+", "N", 2))
        self.told("X in 1 .. N + 2", ("in", "X", span))
        self.told("X in 1 .. N + 2 such X < Y * 2 and 3 =< X - Y - 1",
                  ("such", ("in", "X", span),
                   ("and", ("<", "X", ("*", "Y", 2)), ("=<", 3, ("-", ("-", "X", "Y"), 1)))))
        self.told("X in 1 .. 2 and Y in 3 .. 4 and Z in 5 .. 6",
                  ("and", ("in", "X", ("..", 1, 2)), ("and", ("in", "Y", ("..", 3, 4)), ("in", "Z", ("..", 5, 6)))))
        self.told("not a + b", ("not", ("+", "a", "b")))
        self.told("not a & b", ("not", ("&", "a", "b")), [(6, "none", "&")])
        self.told("X = a + b", ("=", "X", ("+", "a", "b")))
        self.told("X is 7 mod 2 // 3", ("is", "X", ("//", ("mod", 7, 2), 3)))
        self.told("(not (a))", ("not", "a"))

    def test_kept_operators_that_do_not_go_together(self):
        self.all_refused("a = b = c", "1 < 2 < 3", "X is 1 == 2", "not not a", "not a in b", "X in Y in 1 .. 2",
                         "1 .. 2 .. 3", "X in 1 .. 2 such X < 1 such X < 2", "not a = b = c")


if __name__ == "__main__":
    unittest.main()
