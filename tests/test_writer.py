"""[22] to [24]: the written form of patterns, goals and lines, and the plain form."""

import itertools
import random
import unittest

from goalstead.errors import GoalError
from goalstead.reader import read_goal, read_line, read_term, read_text
from goalstead.writer import plain, written, written_line
from tests import oracle
from tests.helpers import Case, chained, deep, sized

BIG = 10 ** 60 - 1
SIGNS = [(5, "ahead", "neg"), (2, "ahead", "-"), (5, "right", "=>"), (1, "none", "^"), (2, "left", "&")]


class WrittenCase(Case):
    def told(self, pattern, wanted, operators=()):
        with self.subTest(pattern=pattern, operators=operators):
            handed = list(operators)
            self.assertEqual(written(pattern, handed), wanted)
            self.assertEqual(handed, list(operators))

    def read_again(self, pattern, operators, read):
        """The written form is read to the same; without any pair of its needed brackets it is not."""
        with self.subTest(pattern=pattern, operators=operators):
            text = written(pattern, operators)
            self.assertEqual(read(text, operators), pattern)
            for start, end in part_brackets(text):
                bare = text[:start] + " " + text[start + 1:end] + " " + text[end + 1:]
                try:
                    other = read(bare, operators)
                except GoalError:
                    other = None
                self.assertNotEqual(other, pattern, bare)


def part_brackets(text):
    """The places of each pair of brackets round a part of an operator's tuple."""
    found, waiting = [], []
    for at, sign in enumerate(text):
        if sign == "(":
            # A named tuple's bracket stands straight behind its name.
            waiting.append(at if at == 0 or text[at - 1] in " (" else None)
        elif sign == ")":
            start = waiting.pop()
            if start is not None:
                found.append((start, at))
    return found


class PatternTest(WrittenCase):
    def test_numbers_words_and_unknowns(self):
        for pattern, wanted in ((0, "0"), (5, "5"), (-5, "~5"), (-10, "~10"), (BIG, "9" * 60), (-BIG, "~" + "9" * 60),
                                ("a", "a"),
                                ("left", "left"), ("a1b2", "a1b2"), ("X", "X"), ("Ab1", "Ab1")):
            self.told(pattern, wanted)
            self.told(pattern, wanted, SIGNS)

    def test_named_tuples(self):
        self.told(("f", 1), "f(1)")
        self.told(("f", "a", "X", -2), "f(a, X, ~2)")
        self.told(("f", 1, 2, 3, 4), "f(1, 2, 3, 4)")
        self.told(("f", ("g", "a", ("h", 1)), ("g", 2)), "f(g(a, h(1)), g(2))")
        self.told(("f", ("+", 1, 2), ("g", ("-", "a", "b"))), "f(1 + 2, g(a - b))")

    def test_operators_between(self):
        for name in ("+", "-", "*", "//", "mod"):
            self.told((name, "a", -1), f"a {name} ~1")
        self.told(("&", "a", ("f", "b")), "a & f(b)", SIGNS)
        self.told(("&", "a", ("f", "b")), "&(a, f(b))")

    def test_left_right_and_none_on_each_side(self):
        for name, operators in (("-", []), ("=>", SIGNS), ("^", SIGNS)):
            left, right = (name, (name, "a", "b"), "c"), (name, "a", (name, "b", "c"))
            wanted_left = {"-": "a - b - c", "=>": "(a => b) => c", "^": "(a ^ b) ^ c"}
            wanted_right = {"-": "a - (b - c)", "=>": "a => b => c", "^": "a ^ (b ^ c)"}
            self.told(left, wanted_left[name], operators)
            self.told(right, wanted_right[name], operators)
        self.told(("-", ("+", "a", "b"), ("+", "c", "d")), "a + b - (c + d)")
        self.told(("*", ("mod", "a", "b"), ("//", "c", "d")), "a mod b * (c // d)")

    def test_lower_and_higher_levels(self):
        self.told(("+", ("*", "a", "b"), ("*", "c", "d")), "a * b + c * d")
        self.told(("*", ("+", "a", "b"), ("+", "c", "d")), "(a + b) * (c + d)")
        self.told(("=>", ("+", "a", "b"), ("&", "c", "d")), "a + b => c & d", SIGNS)
        self.told(("^", ("=>", "a", "b"), ("*", "c", "d")), "(a => b) ^ (c * d)", SIGNS)
        self.told(("-", ("-", ("-", 1, 2), 3), ("*", 4, ("-", 5, 6))), "1 - 2 - 3 - 4 * (5 - 6)")

    def test_operators_ahead(self):
        self.told(("neg", "a"), "neg a", SIGNS)
        self.told(("neg", -1), "neg ~1", SIGNS)
        self.told(("-", 1), "- 1", SIGNS)
        self.told(("-", -1), "- ~1", SIGNS)
        self.told(("neg", ("-", "a")), "neg - a", SIGNS)
        self.told(("-", ("neg", "a")), "- (neg a)", SIGNS)
        self.told(("neg", ("neg", "a")), "neg (neg a)", SIGNS)
        self.told(("neg", ("f", "a", "b")), "neg f(a, b)", SIGNS)
        self.told(("f", ("neg", "a"), ("-", "b")), "f(neg a, - b)", SIGNS)
        self.told(("neg", "a"), "neg(a)")
        self.told(("-", 1), "-(1)")

    def test_operators_ahead_within_operators_between_and_the_other_way_round(self):
        self.told(("+", ("neg", "a"), ("neg", "b")), "(neg a) + (neg b)", SIGNS)
        self.told(("neg", ("+", "a", "b")), "neg a + b", SIGNS)
        self.told(("neg", ("=>", "a", "b")), "neg (a => b)", SIGNS)
        self.told(("=>", ("neg", "a"), ("neg", "b")), "(neg a) => neg b", SIGNS)
        self.told(("-", ("-", "a"), ("-", "b")), "- a - - b", SIGNS)
        self.told(("-", ("-", "a", "b")), "- (a - b)", SIGNS)
        self.told(("&", ("-", "a"), ("-", "b")), "- a & (- b)", SIGNS)
        self.told(("-", ("&", "a", "b")), "- (a & b)", SIGNS)
        self.told(("-", ("^", "a", "b")), "- a ^ b", SIGNS)
        self.told(("^", ("-", "a"), "b"), "(- a) ^ b", SIGNS)

    def test_other_numbers_of_parts_than_an_operator_has(self):
        self.told(("+", 1), "+(1)")
        self.told(("+", 1, 2, 3), "+(1, 2, 3)")
        self.told(("mod", "a"), "mod(a)")
        self.told(("neg", "a", "b"), "neg(a, b)", SIGNS)
        self.told(("^", "a"), "^(a)", SIGNS)
        self.told(("-", ("-", 1, 2, 3), ("neg", 1, 2)), "-(1, 2, 3) - neg(1, 2)", SIGNS)
        self.told(("*", ("+", 1), ("+", 1, 2, 3, 4)), "+(1) * +(1, 2, 3, 4)")
        self.told(("-", ("-", 1, 2, 3)), "- -(1, 2, 3)", SIGNS)

    def test_an_operators_name_as_a_word(self):
        self.told("mod", "mod")
        self.told(("+", "neg", ("f", "mod")), "neg + f(mod)", SIGNS)

    def test_by_the_operators_of_its_text_alone(self):
        pattern = ("&", ("+", 1, 2), ("&", 3, 4))
        self.told(pattern, "&(1 + 2, &(3, 4))")
        self.told(pattern, "1 + 2 & (3 & 4)", [(5, "left", "&")])
        self.told(pattern, "1 + 2 & 3 & 4", [(5, "right", "&")])
        self.told(pattern, "(1 + 2) & (3 & 4)", [(1, "none", "&")])
        self.told(pattern, "&(1 + 2, &(3, 4))", [(5, "ahead", "&")])
        self.told(pattern, "&(1 + 2, &(3, 4))")

    def test_sixty_and_twelve(self):
        for text in (sized(60), deep(12), chained(11)):
            self.told(read_term(text, []), text)


class GoalTest(WrittenCase):
    def test_goals_of_each_kind(self):
        for line in ("rain", "path(X, b)", "not rain", "not f(X)", "not a + b", "X = a", "a + b = f(c)", "X is 1",
                     "5 is X * (2 - Y) // ~3",
                     "X < 1", "X + 1 =< Y", "1 == 2", "X mod 2 =/= 1 - (2 - 3)", "X in 1 .. 3", "X in N - 1 .. 3 * M",
                     "X in 1 .. 2 and Y in 1 .. 2", "X in 1 .. 2 and Y in 1 .. 2 and Z in 3 .. 4",
                     "X in 1 .. 2 such X < Y",
                     "X in 1 .. 2 and Y in 1 .. 2 such X < Y and X + Y == 3 and 1 < 2 and X * (Y + 1) =< 9"):
            self.told(read_goal(line, []), line)
            self.read_again(read_goal(line, []), [], read_goal)

    def test_needless_brackets_are_left_out(self):
        for line, wanted in (("(not (rain))", "not rain"), ("((X)) = (a)", "X = a"),
                             ("(X in ((1) .. (2))) such (X < 1)", "X in 1 .. 2 such X < 1"),
                             ("X in 1 .. 2 and (Y in 1 .. 2 and Z in 1 .. 2)",
                              "X in 1 .. 2 and Y in 1 .. 2 and Z in 1 .. 2"),
                             ("X is (1 * 2) + (3)", "X is 1 * 2 + 3"), ("X is 1 - (2 * 3)", "X is 1 - 2 * 3")):
            self.told(read_goal(line, []), wanted)

    def test_told_operators_above_those_of_goals(self):
        told = [(9, "none", "then"), (8, "right", "&"), (7, "ahead", "neg"), (6, "none", "to")]
        for line in ("not (a & b)", "not a to b", "not (neg a)", "X = (a then b)", "(a to b) = X", "X = (neg a)",
                     "(a & b) = c", "(a to b) is 1"):
            self.told(read_goal(line, told), line, told)
            self.read_again(read_goal(line, told), told, read_goal)


class LineTest(WrittenCase):
    def test_lines_of_each_kind(self):
        rows = [
            (("blank",), ""), (("op", 5, "left", "&"), "op 5 left &"), (("op", 1, "ahead", "neg"), "op 1 ahead neg"),
            (("op", 9, "none", "to"), "op 9 none to"), (("mode", "rain", ""), "mode rain"),
            (("mode", "f", "+"), "mode f(in)"),
            (("mode", "f", "-"), "mode f(out)"), (("mode", "f", "+-"), "mode f(in, out)"),
            (("mode", "+", "-++-"), "mode +(out, in, in, out)"),
            (("table", "path", 2), "table path 2"), (("table", "=>", 0), "table => 0"),
            (("clause", "rain", ()), "rain"),
            (("clause", ("f", -1, "X"), ()), "f(~1, X)"), (("clause", "a", ("b",)), "a <- b"),
            (("clause", ("path", "X", "Y"), (("path", "X", "Z"), ("edge", "Z", "Y"), ("not", ("f", "X")))),
             "path(X, Y) <- path(X, Z), edge(Z, Y), not f(X)"),
            (("clause", ("+", "a", "b"), (("=", "X", ("+", 1, 2)), ("is", "Y", -1))), "a + b <- X = 1 + 2, Y is ~1"),
        ]
        for row, wanted in rows:
            with self.subTest(row):
                self.assertEqual(written_line(row, []), wanted)
                self.assertEqual(read_line(wanted, []), row)

    def test_by_a_texts_operators(self):
        row = ("clause", ("&", "a", ("neg", "b")), (("neg", ("&", "c", "d")), ("not", ("&", "e", "f"))))
        told = [(5, "left", "&"), (2, "ahead", "neg")]
        self.assertEqual(written_line(row, told), "a & neg b <- neg (c & d), not e & f")
        self.assertEqual(written_line(row, []), "&(a, neg(b)) <- neg(&(c, d)), not &(e, f)")
        self.assertEqual(told, [(5, "left", "&"), (2, "ahead", "neg")])
        self.assertEqual(written_line(("mode", "&", "++"), told), "mode &(in, in)")
        self.assertEqual(written_line(("table", "neg", 1), told), "table neg 1")
        self.assertEqual(written_line(("op", 5, "left", "&"), told), "op 5 left &")

    def test_a_text_is_written_and_read_again(self):
        lines = ["", "op 5 right =>", "mode  =>(in , out)", "table => 2", "(a)=>b", "X=>(Y=>Z)<-(X+1)=>Y,not(Z=>~5)",
                 "op 2 ahead -",
                 "f(-X) <- X in 1..2 and(Y in 3 .. 4)such X<Y"]
        neat = ["", "op 5 right =>", "mode =>(in, out)", "table => 2", "a => b",
                "X => Y => Z <- X + 1 => Y, not Z => ~5", "op 2 ahead -",
                "f(- X) <- X in 1 .. 2 and Y in 3 .. 4 such X < Y"]
        operators, rows = read_text(lines)
        self.assertEqual([written_line(row, operators) for row in rows], neat)
        self.assertEqual(read_text(neat), (operators, rows))


class ReadAgainTest(WrittenCase):
    """[23]: what was read is written and read again to the same, with no needless bracket."""

    def test_all_small_patterns_of_a_texts_operators(self):
        operators = SIGNS
        names = [("neg", 1), ("-", 1), ("=>", 2), ("^", 2), ("&", 2), ("+", 2), ("*", 2), ("f", 1), ("f", 2)]
        small = ["a", -5] + [(name, *["a", "X"][:many]) for name, many in names]
        for name, many in names:
            for parts in itertools.product(small, repeat=many):
                self.read_again((name, *parts), operators, read_term)

    def test_deeper_patterns_of_any_operators(self):
        chance = random.Random(23)
        sides = {1: "left", 2: "right", 3: "left", 4: "left", 5: "none", 6: "none", 7: "none", 8: "right", 9: "none"}
        for _ in range(600):
            operators = [(level, side, f"o{level}") for level, side in sides.items() if chance.random() < 0.6]
            operators += [(chance.randint(1, 9), "ahead", name) for name in ("p", "o1", "+")]
            names = [(name, 1 if side == "ahead" else 2) for _, side, name in operators + oracle.OWN[11:]] + [("f", 3),
                                                                                                              ("g", 1)]
            pattern = some_pattern(chance, names, 4)
            if oracle.fits(pattern):
                self.read_again(pattern, operators, read_term)

    def test_sums_of_goals(self):
        chance = random.Random(22)
        names = [(name, 2) for name in ("+", "-", "*", "//", "mod")]
        for _ in range(200):
            left, right = some_sum(chance, names, 3), some_sum(chance, names, 3)
            self.read_again(("<", left, right), [], read_goal)
            self.read_again(("in", "Box", ("..", left, right)), [], read_goal)

    def test_what_is_told_but_not_read_again(self):
        for pattern, operators in (("mod", []), (("+", 1), []), (("+", 1, 2, 3), []), (("neg", 1, 2), SIGNS),
                                   (("&", 1, 2), []),
                                   (("f", "neg"), SIGNS), (("f", ("neg", 1, 2, 3)), SIGNS)):
            with self.subTest(pattern):
                with self.assertRaises(GoalError):
                    read_term(written(pattern, operators), operators)


def some_pattern(chance, names, depth):
    if depth == 0 or chance.random() < 0.2:
        return chance.choice(["a", "b", "X", "Y", 0, 7, -3])
    name, many = chance.choice(names)
    return (name, *[some_pattern(chance, names, depth - 1) for _ in range(many)])


def some_sum(chance, names, depth):
    if depth == 0 or chance.random() < 0.2:
        return chance.choice(["X", "Y", 0, 7, -3])
    return (chance.choice(names)[0], some_sum(chance, names, depth - 1), some_sum(chance, names, depth - 1))


class PlainTest(Case):
    def test_each_tuple_by_its_name_and_its_parts(self):
        rows = [
            (5, "5"), (0, "0"), (-5, "~5"), (-BIG, "~" + "9" * 60), ("a", "a"), ("X", "X"), (("f", 1), "f(1)"),
            (("f", "a", "X", -2), "f(a, X, ~2)"), (("+", 1, 2), "+(1, 2)"), (("-", 1), "-(1)"),
            (("mod", "a", "b"), "mod(a, b)"),
            (("+", ("*", 1, 2), ("-", 3, -4)), "+(*(1, 2), -(3, ~4))"),
            (("f", ("+", 1, 2), ("g", "a")), "f(+(1, 2), g(a))"),
            (("&", 1, 2, 3, 4), "&(1, 2, 3, 4)"), (("//", "a", ("//", "b", "c")), "//(a, //(b, c))"),
            (("f", ("f", ("f", "a"))), "f(f(f(a)))"),
        ]
        for pattern, wanted in rows:
            with self.subTest(pattern):
                self.assertEqual(plain(pattern), wanted)

    def test_unlike_patterns_have_unlike_plain_forms(self):
        chance = random.Random(24)
        names = [("f", 1), ("f", 2), ("+", 2), ("+", 1), ("-", 1), ("-", 2), ("*", 3), ("a", 1), ("a", 4)]
        seen = {}
        patterns = [1, -1, 11, -11, "a", "aa", "A", "f", ("f", 1), ("f", -1), ("f", "a"), ("f", 1, 1), ("f", 11),
                    ("f", ("f", 1)),
                    ("+", ("-", 1), 2), ("-", ("+", 1, 2)), ("-", 1, 2), ("-", -1), ("-", 1), ("+", 1, ("+", 2, 3)),
                    ("+", ("+", 1, 2), 3), ("+", 1, 2, 3), ("f", "a", ("f", "b"), "c"), ("f", "a", ("f", "b", "c"))]
        patterns += [some_pattern(chance, names, 3) for _ in range(2000)]
        for pattern in patterns:
            text = plain(pattern)
            self.assertEqual(seen.setdefault(text, pattern), pattern, text)

    def test_the_plain_form_is_read_as_named_tuples(self):
        for text in (deep(12), sized(60), chained(11)):
            self.assertEqual(plain(read_term(text, [])), text)


if __name__ == "__main__":
    unittest.main()
