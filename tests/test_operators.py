"""[13] and [14]: the language's own operators, and BadOperator."""

import unittest

from goalstead.errors import BadOperator
from goalstead.operators import let_by, own
from tests.helpers import Case

KEPT = ["op", "mode", "table", "not", "is", "in", "such", "and", "=", "<", "=<", "==", "=/=", "..", "<-"]
SIDES = ["left", "right", "none", "ahead"]
# By level, the side that the language's own operators between have there.
OWN_SIDES = {9: "none", 8: "right", 7: "none", 6: "none", 4: "left", 3: "left"}


def twelve():
    return [(5, "left", f"w{k}") for k in range(12)]


class OwnTest(Case):
    def test_sixteen_in_their_order(self):
        self.assertEqual(own(), [
            (9, "none", "such"), (8, "right", "and"), (7, "none", "in"), (7, "ahead", "not"),
            (6, "none", "="), (6, "none", "is"), (6, "none", "<"), (6, "none", "=<"),
            (6, "none", "=="), (6, "none", "=/="), (6, "none", ".."),
            (4, "left", "+"), (4, "left", "-"), (3, "left", "*"), (3, "left", "//"), (3, "left", "mod"),
        ])
        self.assertEqual([len(operator) for operator in own()], [3] * 16)
        self.assertEqual({type(operator) for operator in own()}, {tuple})

    def test_the_told_list_is_a_new_one(self):
        self.assert_new_each_time(own)
        told = own()
        told.append((5, "left", "w"))
        let_by([(5, "left", "w")])
        self.assertEqual(len(own()), 16)


class LetByTest(Case):
    def let(self, *operators):
        with self.subTest(operators):
            handed = list(operators)
            self.assertIsNone(let_by(handed))
            self.assertEqual(handed, list(operators))

    def refused(self, line, *operators):
        with self.subTest(operators):
            handed = list(operators)
            self.assert_refused(BadOperator, {"line": line}, let_by, handed)
            self.assertEqual(handed, list(operators))
            # What stands ahead of the one that is refused is let by.
            self.assertIsNone(let_by(handed[:line]))

    def test_none_one_and_some(self):
        self.let()
        self.let((5, "left", "w"))
        self.let((5, "ahead", "w"), (1, "right", "&"), (2, "none", "=>"), (9, "ahead", "neg"))

    def test_a_kept_name(self):
        for name in KEPT:
            for side in SIDES:
                for level in (1, 2, 5, 6, 7):
                    self.refused(0, (level, side, name))
            self.refused(1, (5, "left", "w"), (5, "left", name))

    def test_names_that_are_nearly_kept_or_own(self):
        for name in ("ops", "modes", "tabled", "nots", "isa", "ins", "o", "left", "ahead", "out", "<=", ">", "=/",
                     "...", "<--",
                     "->", "===", ".", "!="):
            self.let((5, "left", name), (2, "ahead", name))

    def test_a_name_of_an_own_operator_between(self):
        for level, name in ((4, "+"), (4, "-"), (3, "*"), (3, "//"), (3, "mod")):
            self.refused(0, (level, "left", name))
            self.refused(0, (5, "right", name))
            self.refused(0, (1, "none", name))
            for own_level in range(1, 10):
                self.let((own_level, "ahead", name))
            self.refused(1, (5, "ahead", name), (5, "left", name))
            self.refused(1, (5, "ahead", name), (2, "ahead", name))

    def test_a_name_told_twice(self):
        for one in SIDES:
            for two in SIDES:
                told = ((5, one, "w"), (2, two, "w"))
                if (one == "ahead") == (two == "ahead"):
                    self.refused(1, *told)
                else:
                    self.let(*told)

    def test_once_between_and_once_ahead_and_then_no_more(self):
        self.let((5, "left", "&"), (5, "ahead", "&"))
        self.let((5, "ahead", "&"), (5, "left", "&"))
        self.refused(2, (5, "ahead", "&"), (5, "left", "&"), (5, "left", "&"))
        self.refused(2, (5, "ahead", "&"), (5, "left", "&"), (1, "ahead", "&"))
        self.refused(2, (5, "ahead", "&"), (4, "ahead", "w"), (1, "ahead", "&"))
        self.refused(3, (5, "left", "w"), (4, "ahead", "w"), (4, "left", "v"), (4, "left", "w"))

    def test_one_side_on_each_level_beside_the_own_operators(self):
        for level in range(1, 10):
            for side in ("left", "right", "none"):
                if OWN_SIDES.get(level, side) == side:
                    self.let((level, side, "w"), (level, side, "v"), (level, "ahead", "u"))
                else:
                    self.refused(0, (level, side, "w"))
                    self.refused(1, (level, "ahead", "w"), (level, side, "v"))

    def test_one_side_on_each_level_beside_those_told_earlier(self):
        for level in (1, 2, 5):
            for one in ("left", "right", "none"):
                for two in ("left", "right", "none"):
                    told = ((level, one, "w"), (4, "left", "x"), (level, "ahead", "u"), (level, two, "v"))
                    if one == two:
                        self.let(*told)
                    else:
                        self.refused(3, *told)
        self.let((1, "left", "a"), (2, "right", "b"), (5, "none", "c"))

    def test_ahead_goes_with_every_side(self):
        for level in range(1, 10):
            self.let((level, "ahead", "w"), (level, "ahead", "v"))
        self.let((5, "ahead", "w"), (5, "left", "v"), (5, "ahead", "u"), (5, "left", "x"))
        self.refused(3, (5, "ahead", "w"), (5, "left", "v"), (5, "ahead", "u"), (5, "right", "x"))

    def test_twelve_and_the_thirteenth(self):
        self.let(*twelve())
        self.refused(12, *twelve(), (5, "left", "w12"))
        self.refused(12, *twelve(), (5, "ahead", "w12"))
        self.refused(12, *twelve(), (5, "left", "w12"), (5, "left", "is"))
        self.refused(12, *twelve(), (5, "left", "w0"))

    def test_the_place_of_the_first_bad_one(self):
        self.refused(1, (5, "left", "w"), (5, "left", "w"), (5, "left", "is"), (5, "right", "v"))
        self.refused(2, (5, "left", "w"), (5, "left", "v"), (5, "none", "u"), (5, "left", "w"))
        self.refused(11, *twelve()[:11], (5, "left", "mode"), (5, "left", "x"))
        self.refused(0, (4, "right", "w"), (5, "left", "<-"))
        self.refused(7, *twelve()[:7], (6, "right", "v"), *twelve()[7:], (5, "left", "u"))

    def test_what_was_refused_may_be_asked_again(self):
        for _ in range(2):
            self.refused(1, (5, "left", "w"), (5, "right", "v"))
            self.let((5, "left", "w"), (5, "left", "v"))


if __name__ == "__main__":
    unittest.main()
