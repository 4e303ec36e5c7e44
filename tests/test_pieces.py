"""[10] to [12]: the pieces of a line, BadPiece, BadSize."""

import itertools
import random
import unittest

from goalstead.errors import BadPiece, BadSize
from goalstead.pieces import pieces_of
from tests import oracle
from tests.helpers import Case

MARK_SIGNS = "+-*/<>=&!?^@#:|.$"
NO_SIGNS = "\"';[\\]_`{}"


class PiecesTest(Case):
    def test_lines_and_their_pieces(self):
        rows = [
            ("", []), ("    ", []), ("a", ["a"]), ("  a  ", ["a"]), ("a b", ["a", "b"]),
            ("12ab", ["12", "ab"]), ("aB", ["a", "B"]), ("AB", ["A", "B"]), ("AbCd", ["Ab", "Cd"]),
            ("abC1d", ["ab", "C1d"]), ("1A", ["1", "A"]), ("a1", ["a1"]), ("A1b2", ["A1b2"]),
            ("=<~5", ["=<", "~5"]), ("+-1", ["+-", "1"]), ("+ -1", ["+", "-", "1"]), ("+ - 1", ["+", "-", "1"]),
            ("~5", ["~5"]), ("~5~6", ["~5", "~6"]), ("a~5", ["a", "~5"]), ("5~5", ["5", "~5"]),
            ("A~1b", ["A", "~1", "b"]),
            ("0", ["0"]), ("0a", ["0", "a"]), ("10", ["10"]), ("~10", ["~10"]), ("100200", ["100200"]),
            ("0 0", ["0", "0"]), ("a0", ["a0"]), ("a00", ["a00"]), ("A007", ["A007"]),
            ("(),", ["(", ")", ","]), ("((", ["(", "("]), ("))", [")", ")"]), (",,", [",", ","]),
            ("f(X,1)", ["f", "(", "X", ",", "1", ")"]), ("f (X , 1 )", ["f", "(", "X", ",", "1", ")"]),
            ("a<-b", ["a", "<-", "b"]), ("a< -b", ["a", "<", "-", "b"]), ("(+)", ["(", "+", ")"]),
            ("X is Y+1", ["X", "is", "Y", "+", "1"]), ("isis", ["isis"]), ("is Is", ["is", "Is"]),
            ("a=/=b", ["a", "=/=", "b"]), ("1..3", ["1", "..", "3"]), ("1 . . 3", ["1", ".", ".", "3"]),
            ("a.b", ["a", ".", "b"]), ("op 5 left &&", ["op", "5", "left", "&&"]),
            ("a,b", ["a", ",", "b"]), ("=,=", ["=", ",", "="]), ("=(=", ["=", "(", "="]),
        ]
        for line, wanted in rows:
            with self.subTest(line):
                self.assertEqual(pieces_of(line), wanted)

    def test_each_marks_sign_alone_and_together(self):
        for sign in MARK_SIGNS:
            with self.subTest(sign):
                self.assertEqual(pieces_of(sign), [sign])
                self.assertEqual(pieces_of(f"a{sign}b"), ["a", sign, "b"])
                self.assertEqual(pieces_of(sign * 3), [sign * 3])
                self.assertEqual(pieces_of(f"{sign}+{sign}"), [f"{sign}+{sign}"])
                self.assert_refused(BadPiece, {"line": 0, "place": 0}, pieces_of, sign * 4)

    def test_each_letter_and_figure(self):
        for sign in "abcdefghijklmnopqrstuvwxyz":
            self.assertEqual(pieces_of(f"{sign} {sign.upper()} {sign.upper()}{sign}{sign}9"),
                             [sign, sign.upper(), f"{sign.upper()}{sign}{sign}9"])
        for sign in "123456789":
            self.assertEqual(pieces_of(f"{sign} ~{sign} {sign}0 a{sign}"), [sign, f"~{sign}", f"{sign}0", f"a{sign}"])

    def test_each_run_of_a_few_signs(self):
        for row in itertools.product("a0~+( Z1,.", repeat=4):
            line = "".join(row)
            wanted = oracle.pieces(line)
            with self.subTest(line):
                if isinstance(wanted, int):
                    self.assert_refused(BadPiece, {"line": 0, "place": wanted}, pieces_of, line)
                else:
                    self.assertEqual(pieces_of(line), wanted)

    def test_long_lines_of_any_signs(self):
        chance = random.Random(10)
        signs = "ab z09~  +-=<./AZ(),$" + chr(34)
        for _ in range(400):
            line = "".join([chance.choice(signs[:-1] if chance.random() < 0.99 else signs) for _ in range(30)])
            line = line.replace("(", ")") if chance.random() < 0.5 else line
            wanted = oracle.pieces(line)
            with self.subTest(line):
                if isinstance(wanted, int):
                    self.assert_refused(BadPiece, {"line": 0, "place": wanted}, pieces_of, line)
                elif line.count("(") <= 12:
                    self.assertEqual(pieces_of(line), wanted)

    def test_the_told_list_is_a_new_one(self):
        self.assert_new_each_time(pieces_of, "a + b")
        self.assert_new_each_time(pieces_of, "a")


class BadPieceTest(Case):
    def refused(self, line, place):
        with self.subTest(line):
            self.assert_refused(BadPiece, {"line": 0, "place": place}, pieces_of, line)

    def test_signs_with_which_no_piece_begins(self):
        for sign in NO_SIGNS:
            self.refused(sign, 0)
            self.refused(f"ab {sign}", 3)
            self.refused(f"ab{sign}c", 2)
            self.refused(f"+{sign}", 1)
            self.refused(f"f({sign})", 2)

    def test_a_swung_stroke_without_a_figure(self):
        for line, place in (("~", 0), ("~ 5", 0), ("~a", 0), ("a ~", 2), ("~~5", 0), ("5~", 1), ("+~", 1), ("~(5)", 0),
                            ("~+5", 0), ("~A", 0), ("~5 ~", 3)):
            self.refused(line, place)

    def test_a_nought_too_much_ahead(self):
        for line, place in (("00", 0), ("07", 0), ("~0", 0), ("~07", 0), ("~00", 0), ("a 00", 2), ("a 01", 2),
                            ("000", 0),
                            ("a+07", 2), ("a+~07", 2), ("1 2 03 4", 4), ("0 00", 2), ("01a", 0), ("00a", 0), ("~0a", 0),
                            ("A+09", 2), ("a,~0", 2), ("0" * 61, 0)):
            self.refused(line, place)

    def test_sixty_figures_and_one_more(self):
        sixty = "1" + "0" * 59
        self.assertEqual(pieces_of(sixty), [sixty])
        self.assertEqual(pieces_of(f"~{sixty}"), [f"~{sixty}"])
        self.assertEqual(pieces_of(f"a {sixty}b"), ["a", sixty, "b"])
        for more in (sixty + "0", sixty + "5" * 40):
            self.refused(more, 0)
            self.refused(f"~{more}", 0)
            self.refused(f"a ~{more}", 2)
            self.refused(f"a+{more}b", 2)

    def test_words_and_unknowns_of_twelve_signs_and_of_thirteen(self):
        for twelve in ("abcdefghijkl", "Abcdefghijkl", "a12345678901", "A12345678901", "a00000000000"):
            self.assertEqual(pieces_of(twelve), [twelve])
            self.assertEqual(pieces_of(f"({twelve}+"), ["(", twelve, "+"])
            self.assertEqual(pieces_of(f"{twelve}A"), [twelve, "A"])
            for more in (twelve + "m", twelve + "1", twelve + "0", twelve + "ab" * 20):
                self.refused(more, 0)
                self.refused(f"  ({more})", 3)
                self.refused(f"12{more}", 2)
                self.refused(f"Z{more}" if more[0] == "A" else f"+{more}", 1)

    def test_a_word_as_long_as_its_signs_go_on(self):
        self.refused("aabcdefghijkl9", 0)
        self.assertEqual(pieces_of("abcdefghijklAbcdefghijkl"), ["abcdefghijkl", "Abcdefghijkl"])
        self.assertEqual(pieces_of("123456789012abcdefghijkl"), ["123456789012", "abcdefghijkl"])

    def test_marks_of_three_signs_and_of_four(self):
        self.assertEqual(pieces_of("=/="), ["=/="])
        self.assertEqual(pieces_of("<-> a"), ["<->", "a"])
        self.assertEqual(pieces_of("&&& &&&"), ["&&&", "&&&"])
        for line, place in (("=/==", 0), ("a <--- b", 2), ("a....b", 1), ("+-+-1", 0), ("(:|:|)", 1), ("&&& &&&&", 4)):
            self.refused(line, place)

    def test_the_first_bad_piece_is_told_whichever_others_follow(self):
        self.refused("a 00 ; ~", 2)
        self.refused("a ; 00 ~", 2)
        self.refused("; abcdefghijklm", 0)
        self.refused("a abcdefghijklm ; ....", 2)
        self.refused("(.... 07", 1)
        self.refused("X ~ 07 " + "1" * 61, 2)
        self.refused("1" * 61 + " ;", 0)

    def test_what_was_refused_may_be_asked_again(self):
        for _ in range(2):
            self.refused("a 00", 2)
            self.assertEqual(pieces_of("a 0"), ["a", "0"])


class BadSizeTest(Case):
    def refused(self, line, **most):
        with self.subTest(line):
            self.assert_refused(BadSize, {"line": 0}, pieces_of, line, **most)

    def test_two_hundred_pieces_and_one_more(self):
        self.assertEqual(pieces_of("a " * 200), ["a"] * 200)
        self.assertEqual(pieces_of("~1" * 200), ["~1"] * 200)
        self.assertEqual(pieces_of("),+1" * 50), [")", ",", "+", "1"] * 50)
        self.refused("a " * 201)
        self.refused("~1" * 201)
        self.refused(",," * 1000)

    def test_as_many_as_most_and_one_more(self):
        for most in (0, 1, 2, 3, 12, 13, 60, 199, 200):
            self.assertEqual(pieces_of("a," * (most // 2) + "b" * (most - most // 2 * 2), most=most),
                             ["a", ","] * (most // 2) + ["b"] * (most - most // 2 * 2))
            self.refused("1 " * (most + 1), most=most)
        self.assertEqual(pieces_of("   ", most=0), [])
        self.assertEqual(pieces_of("aB", most=2), ["a", "B"])
        self.refused("12ab+", most=2)

    def test_twelve_open_brackets_and_thirteen(self):
        self.assertEqual(pieces_of("(" * 12), ["("] * 12)
        self.assertEqual(pieces_of("(" * 12 + ")" * 12), ["("] * 12 + [")"] * 12)
        self.refused("(" * 13)
        self.refused("(" * 13 + ")" * 13)
        self.refused("f(" * 13)
        self.refused("a)" + "(" * 14)

    def test_brackets_that_are_closed_let_others_be_opened(self):
        self.assertEqual(len(pieces_of("()" * 90)), 180)
        self.assertEqual(len(pieces_of("(" * 12 + ")(" * 20)), 52)
        self.refused("(" * 12 + ")(" * 20 + "(")
        self.refused("(()" * 13)
        self.assertEqual(len(pieces_of("(()" * 11)), 33)
        self.assertEqual(len(pieces_of("(()" * 11 + "(")), 34)
        self.refused("(()" * 12)

    def test_brackets_closed_below_nought(self):
        self.assertEqual(len(pieces_of(")" + "(" * 13)), 14)
        self.refused(")" + "(" * 14)
        self.assertEqual(len(pieces_of(")" * 20 + "(" * 32)), 52)
        self.refused(")" * 20 + "(" * 33)
        self.assertEqual(len(pieces_of("()))" + "(" * 14)), 18)
        self.refused("()))" + "(" * 15)
        self.refused("(" * 13 + ")" * 20)

    def test_bad_piece_goes_ahead(self):
        for line, place in (("a " * 201 + ";", 402), ("(" * 13 + "~", 13), ("; " + "a " * 201, 0),
                            ("(" * 20 + "07", 20)):
            with self.subTest(line):
                self.assert_refused(BadPiece, {"line": 0, "place": place}, pieces_of, line)
        self.assert_refused(BadPiece, {"line": 0, "place": 2}, pieces_of, "a 00", most=0)

    def test_what_was_refused_may_be_asked_again(self):
        for _ in range(2):
            self.refused("a b", most=1)
            self.assertEqual(pieces_of("a b"), ["a", "b"])


if __name__ == "__main__":
    unittest.main()
