"""[21]: whole texts, their operators, and which refusal of a text is told."""

import itertools
import unittest

from goalstead.errors import BadOperator, BadPiece, BadShape, BadSize
from goalstead.reader import read_text
from tests.helpers import Case, chained, deep, sized

PATHS = [
    "op 5 none to",
    "",
    "mode edge(in, out)",
    "mode path(in, out)",
    "table path 2",
    "edge(a, b)",
    "path(X, Y) <- edge(X, Y)",
    "path(X, Y) <- path(X, Z), edge(Z, Y), not X to Y",
    "a to b",
]
PATH_ROWS = [
    ("op", 5, "none", "to"),
    ("blank",),
    ("mode", "edge", "+-"),
    ("mode", "path", "+-"),
    ("table", "path", 2),
    ("clause", ("edge", "a", "b"), ()),
    ("clause", ("path", "X", "Y"), (("edge", "X", "Y"),)),
    ("clause", ("path", "X", "Y"), (("path", "X", "Z"), ("edge", "Z", "Y"), ("not", ("to", "X", "Y")))),
    ("clause", ("to", "a", "b"), ()),
]

# What a line refuses with when it is read in a text with the operators of GOOD_OPS.
BAD_PIECE = ("a ;", BadPiece, {"place": 2})
BAD_SIZE = ("a <- " + "(" * 13, BadSize, {})
BAD_SHAPE = ("a b", BadShape, {})
TOO_BIG = (deep(13), BadSize, {})
OP_BAD_PIECE = ("op 5 left 00", BadPiece, {"place": 10})
OP_BAD_SIZE = ("op " + "(" * 13, BadSize, {})
OP_BAD_SHAPE = ("op 5 middle &", BadShape, {})
OP_BAD_OPERATOR = ("op 5 left is", BadOperator, {})
OTHERS = (BAD_PIECE, BAD_SIZE, BAD_SHAPE, TOO_BIG)
OPS = (OP_BAD_PIECE, OP_BAD_SIZE, OP_BAD_SHAPE, OP_BAD_OPERATOR)


class TextCase(Case):
    def refused(self, kind, line, lines, fields=None, **most):
        with self.subTest(lines):
            handed = list(lines)
            self.assert_refused(kind, {"line": line, **(fields or {})}, read_text, handed, **most)
            self.assertEqual(handed, list(lines))


class WholeTextTest(TextCase):
    def test_operators_and_rows(self):
        self.assertEqual(read_text(PATHS), ([(5, "none", "to")], PATH_ROWS))
        self.assertEqual(read_text([]), ([], []))
        self.assertEqual(read_text([""]), ([], [("blank",)]))
        self.assertEqual(read_text(["", "a", "  "]), ([], [("blank",), ("clause", "a", ()), ("blank",)]))

    def test_kinds_of_what_is_told(self):
        told = read_text(PATHS)
        self.assertIs(type(told), tuple)
        self.assertEqual([type(part) for part in told], [list, list])
        self.assertEqual({type(row) for row in told[1]}, {tuple})
        self.assertEqual({type(operator) for operator in told[0]}, {tuple})

    def test_operators_in_the_order_of_the_text(self):
        lines = ["op 5 left b", "a", "op 2 ahead a", "op 1 right b1", "  op 5 left &"]
        self.assertEqual(read_text(lines[:1] + lines[2:])[0],
                         [(5, "left", "b"), (2, "ahead", "a"), (1, "right", "b1"), (5, "left", "&")])
        self.assertEqual(read_text(lines[4:] + lines[:1])[0], [(5, "left", "&"), (5, "left", "b")])

    def test_operators_count_above_and_below_their_lines(self):
        lines = ["a & b & c", "op 5 right &", "a & b <- c & d, neg e", "op 7 ahead neg"]
        rows = [
            ("clause", ("&", "a", ("&", "b", "c")), ()), ("op", 5, "right", "&"),
            ("clause", ("&", "a", "b"), (("&", "c", "d"), ("neg", "e"))), ("op", 7, "ahead", "neg"),
        ]
        for order in itertools.permutations(range(4)):
            told = read_text([lines[at] for at in order])
            self.assertEqual(told[1], [rows[at] for at in order])
            self.assertEqual(told[0], [rows[at][1:] for at in order if rows[at][0] == "op"])

    def test_a_name_of_an_operator_below_stands_for_nothing_else_above(self):
        self.refused(BadShape, 0, ["to", "op 5 left to"])
        self.refused(BadShape, 1, ["a", "f(to)", "op 5 ahead to"])
        self.refused(BadShape, 0, ["to(a, b)", "op 5 left to"])
        self.assertEqual(read_text(["mode to(in, out)", "table to 2", "op 5 left to"])[1],
                         [("mode", "to", "+-"), ("table", "to", 2), ("op", 5, "left", "to")])

    def test_told_lists_are_new_ones_and_the_handed_one_stays(self):
        handed = list(PATHS)
        for _ in range(2):
            operators, rows = read_text(handed)
            self.assertEqual((operators, rows), ([(5, "none", "to")], PATH_ROWS))
            operators.clear()
            rows.clear()
            self.assertEqual(handed, PATHS)

    def test_what_is_changed_behind_the_reading_changes_nothing(self):
        handed = list(PATHS)
        told = read_text(handed)
        handed.clear()
        self.assertEqual(told, ([(5, "none", "to")], PATH_ROWS))
        self.assertEqual(read_text(handed), ([], []))

    def test_texts_have_nothing_in_common(self):
        read_text(["op 5 left &"])
        self.refused(BadShape, 0, ["a & b"])
        self.assertEqual(read_text(["op 5 right &"])[0], [(5, "right", "&")])

    def test_sixty_lines(self):
        self.assertEqual(read_text(["a"] * 60), ([], [("clause", "a", ())] * 60))
        self.assertEqual(read_text([""] * 60), ([], [("blank",)] * 60))
        ops = [f"op 5 left w{k}" for k in range(12)]
        lines = ["a w0 b w11 c"] * 48 + ops
        operators, rows = read_text(lines)
        self.assertEqual(operators, [(5, "left", f"w{k}") for k in range(12)])
        self.assertEqual(rows[0], ("clause", ("w11", ("w0", "a", "b"), "c"), ()))
        self.assertEqual(len(rows), 60)
        self.refused(BadShape, 59, ["a"] * 59 + ["a b"])

    def test_sixty_lines_of_two_hundred_pieces(self):
        goals = ["f(1, 2, 3, ((((((((4)))))))))"] * 6
        goals[5] = f"((({goals[5]})))"
        line = "(" * 10 + "h((1), 2, 3, 4)" + ")" * 10 + " <- " + ", ".join(goals)
        row = ("clause", ("h", 1, 2, 3, 4), (("f", 1, 2, 3, 4),) * 6)
        self.assertEqual(read_text([line] * 60), ([], [row] * 60))
        hard = "(" * 12 + "a " + "+ a " * 90
        self.refused(BadShape, 59, [line] * 59 + [hard])
        self.refused(BadShape, 0, [hard] * 60)


class OneRefusalTest(TextCase):
    def test_each_refusal_with_the_number_of_its_line(self):
        for text, kind, fields in OTHERS + OPS:
            self.refused(kind, 0, [text], fields)
            self.refused(kind, 1, ["a", text], fields)
            self.refused(kind, 2, ["", "op 5 left &", text, "b"], fields)
            self.refused(kind, 59, ["a"] * 59 + [text], fields)

    def test_the_place_of_a_bad_piece(self):
        self.refused(BadPiece, 3, ["a", "b", "c", "d e 07 ;"], {"place": 4})
        self.refused(BadPiece, 1, ["a", "   ~"], {"place": 3})
        self.refused(BadPiece, 2, ["a", "b", "op 5 left abcdefghijklm"], {"place": 10})

    def test_of_one_line_in_the_order_of_the_kinds(self):
        self.refused(BadPiece, 0, ["a b " + "(" * 13 + ";"], {"place": 17})
        self.refused(BadSize, 0, ["a b " + "(" * 13])
        self.refused(BadShape, 0, ["a b " + deep(13)])
        self.refused(BadPiece, 0, ["op 5 left is is ;"], {"place": 16})
        self.refused(BadSize, 0, ["op 5 left is is " + "(" * 13])
        self.refused(BadShape, 0, ["op 5 left is is"])
        self.refused(BadOperator, 0, ["op 5 left is"])

    def test_most(self):
        self.assertEqual(read_text(["a <- b", "op 5 left &", ""], most=4)[0], [(5, "left", "&")])
        self.refused(BadSize, 0, ["a <- b, c"], most=4)
        self.refused(BadSize, 1, ["a <- b, c", "op 5 left &"], most=3)
        self.refused(BadSize, 0, ["op 5 left is"], most=3)
        self.assertEqual(read_text(["", "  "], most=0), ([], [("blank",), ("blank",)]))
        self.refused(BadSize, 1, ["", "a"], most=0)
        self.refused(BadSize, 0, ["a " * 201])
        self.refused(BadShape, 0, ["a " * 200])


class OperatorRefusalTest(TextCase):
    def test_each_kind_of_bad_operator(self):
        for name in ("op", "mode", "table", "not", "is", "in", "such", "and", "=", "<", "=<", "==", "=/=", "..", "<-"):
            self.refused(BadOperator, 1, ["a", f"op 5 left {name}"])
            self.refused(BadOperator, 1, ["a", f"op 5 ahead {name}"])
        self.refused(BadOperator, 0, ["op 4 left +"])
        self.refused(BadOperator, 0, ["op 4 right &"])
        self.refused(BadOperator, 2, ["op 5 left &", "", "op 5 right &&"])
        self.refused(BadOperator, 3, ["op 5 left &", "op 5 ahead &", "", "op 1 left &"])
        self.refused(BadOperator, 4, ["op 5 left &", "", "op 5 ahead &", "a", "op 1 ahead &"])

    def test_the_line_is_the_texts_not_the_place_among_the_operators(self):
        lines = ["a", "", "op 5 left &", "b", "c", "op 5 left &", "d"]
        self.refused(BadOperator, 5, lines)
        lines = [text for k in range(12) for text in (f"op 5 left w{k}", "a")]
        self.assertEqual(len(read_text(lines)[0]), 12)
        self.refused(BadOperator, 24, lines + ["op 5 left w12", "a"])
        self.refused(BadOperator, 25, lines + ["a", "op 5 ahead w1", "op 5 left is"])

    def test_the_first_from_above(self):
        self.refused(BadOperator, 1, ["op 5 left &", "op 5 right +", "op 5 left is"])
        self.refused(BadOperator, 0, ["op 5 left is", "op 5 left is"])


class FirstRefusalTest(TextCase):
    def test_the_first_of_two_other_lines(self):
        for (one, kind, fields), (two, _, _) in itertools.product(OTHERS, repeat=2):
            self.refused(kind, 0, [one, two], fields)
            self.refused(kind, 1, ["a", one, "", two], fields)

    def test_the_first_of_two_op_lines(self):
        for (one, kind, fields), (two, _, _) in itertools.product(OPS, repeat=2):
            self.refused(kind, 0, [one, two], fields)
            self.refused(kind, 1, ["op 5 left &", one, "op 5 left v", two], fields)

    def test_op_lines_go_ahead_of_all_others(self):
        for (one, kind, fields), (two, _, _) in itertools.product(OPS, OTHERS):
            self.refused(kind, 1, [two, one], fields)
            self.refused(kind, 0, [one, two], fields)
            self.refused(kind, 3, [two, two, "op 5 left &", one, two], fields)

    def test_lines_whose_first_piece_cannot_be_read_are_no_op_lines(self):
        for first, place in ((";", 0), ("~", 0), ("00 op", 0), (" ;op 5 left &", 1), ("opopopopopopop", 0), ("'op", 0)):
            self.refused(BadPiece, 0, [first, "a b"], {"place": place})
            self.refused(BadPiece, 1, ["", first, "a b"], {"place": place})
            self.refused(BadShape, 0, ["a b", first])
            self.refused(BadShape, 2, [first, "a", "op 5 left"])
            self.refused(BadOperator, 1, [first, "op 5 left is"])

    def test_what_begins_with_op_whatever_stands_behind_it(self):
        for text, kind, fields in (
            ("op", BadShape, {}), ("op;", BadPiece, {"place": 2}), ("op 00", BadPiece, {"place": 3}),
            ("opX", BadShape, {}),
            ("op(a)", BadShape, {}), ("op <- a", BadShape, {}), ("op,", BadShape, {}), ("   op = 1", BadShape, {}),
            ("op~", BadPiece, {"place": 2}),
            ("op~5", BadShape, {}), ("op+", BadShape, {}), ("op 5 left " + "(" * 13, BadSize, {}),
            ("op " * 201, BadSize, {}),
            ("op 5 left & abcdefghijklm", BadPiece, {"place": 12}),
        ):
            self.refused(kind, 1, ["a b", text], fields)
            self.refused(kind, 1, ["a ;", text, "op 5 left is"], fields)

    def test_what_only_looks_like_an_op_line(self):
        for text in ("ops 5", "op1 5", "Op 5", "a op 5 left &", "(op) 5", "1op 5 left &"):
            self.refused(BadShape, 0, ["a b", text])
            self.refused(BadShape, 0, [text, "a b"])
        self.assertEqual(read_text(["ops", "op1(a)"])[1], [("clause", "ops", ()), ("clause", ("op1", "a"), ())])

    def test_sizes_of_patterns_go_with_their_line(self):
        self.refused(BadSize, 0, [sized(61), "a b"])
        self.refused(BadShape, 0, ["a b", sized(61)])
        self.refused(BadSize, 1, [sized(60), chained(12), "a ;"])
        self.refused(BadOperator, 2, [sized(61), "a ;", "op 5 left is"])

    def test_what_was_refused_may_be_asked_again(self):
        for _ in range(2):
            self.refused(BadOperator, 1, ["a to b", "op 5 left is"])
            self.refused(BadShape, 0, ["a to b", "op 5 left &"])
            self.assertEqual(read_text(PATHS), ([(5, "none", "to")], PATH_ROWS))


if __name__ == "__main__":
    unittest.main()
