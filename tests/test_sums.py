"""[30], [31], [34], [35]: the worth of trees, tests, ends over a box, and tests that are out."""

import itertools
import random
import unittest

from goalstead.sums import ends_of, holds, out, worth_of
from tests import oracle, slow
from tests.helpers import Case

BIG = 10 ** 60 - 1
SIGNS = ("+", "-", "*", "//", "mod")
TEST_SIGNS = ("<", "=<", "==", "=/=")


def chain(sign, many, inmost=1, other=1):
    """A tree that is many + 1 deep and has 2 * many + 1 things."""
    tree = inmost
    for _ in range(many):
        tree = (sign, tree, other)
    return tree


def any_tree(chance, deep, places):
    """A tree by chance, at most that deep, at so many places."""
    if deep == 1 or chance.random() < 0.25:
        if places and chance.random() < 0.6:
            return ("at", chance.randrange(places))
        return chance.choice([0, 1, 2, -1, -3, 7, chance.randint(-20, 20)])
    sign = chance.choice(SIGNS)
    return (sign, any_tree(chance, deep - 1, places), any_tree(chance, deep - 1, places))


def any_box(chance, pairs, width=6):
    lows = [chance.randint(-5, 5) for _ in range(pairs)]
    return tuple((low, low + chance.randint(0, width)) for low in lows)


class WorthTest(Case):
    def worth(self, wanted, tree, places=()):
        with self.subTest(tree=tree, places=places):
            told = worth_of(tree, places)
            self.assertEqual(told, wanted)
            self.assertIs(type(told), type(wanted))

    def test_numbers_and_places(self):
        self.worth(0, 0)
        self.worth(-7, -7)
        self.worth(BIG, BIG)
        self.worth(4, ("at", 0), (4, 5, "a"))
        self.worth(5, ("at", 1), (4, 5, "a"))
        self.worth(-9, ("at", 3), ("a", "b", "c", -9))
        self.worth(12, ("+", ("at", 2), ("*", ("at", 0), ("at", 2))), (3, "b", 3))

    def test_each_sign(self):
        self.worth(9, ("+", 7, 2))
        self.worth(5, ("-", 7, 2))
        self.worth(-5, ("-", 2, 7))
        self.worth(14, ("*", 7, 2))
        self.worth(-14, ("*", 7, -2))
        self.worth(3, ("//", 7, 2))
        self.worth(1, ("mod", 7, 2))
        self.worth(0, ("//", 0, 5))
        self.worth(0, ("mod", 0, -5))
        self.worth(0, ("mod", 6, 3))
        self.worth(-2, ("//", -6, 3))
        self.worth(1, ("-", ("-", 5, 3), 1))
        self.worth(3, ("-", 5, ("-", 3, 1)))

    def test_quotients_and_rests_with_each_of_the_four_signs(self):
        rows = [
            (7, 2, 3, 1), (-7, 2, -4, 1), (7, -2, -4, -1), (-7, -2, 3, -1),
            (1, 3, 0, 1), (-1, 3, -1, 2), (1, -3, -1, -2), (-1, -3, 0, -1),
            (BIG, -10, -10 ** 59, -1), (-BIG, 10, -10 ** 59, 1), (-BIG, -BIG, 1, 0),
        ]
        for left, right, quotient, rest in rows:
            self.worth(quotient, ("//", left, right))
            self.worth(rest, ("mod", left, right))
        for left, right in itertools.product(range(-9, 10), repeat=2):
            for sign in ("//", "mod"):
                self.worth(slow.worth((sign, left, right), ()), (sign, left, right))

    def test_by_nought(self):
        for sign in ("//", "mod"):
            for left in (0, 1, -1, BIG):
                self.worth(None, (sign, left, 0))
                self.worth(None, (sign, left, ("at", 0)), (0,))
                self.worth(None, (sign, left, ("-", 3, 3)))
                self.worth(None, (sign, left, ("*", 0, 5)))
                self.worth(None, (sign, left, ("mod", 6, -3)))
                self.worth(None, (sign, left, ("//", 1, 2)))

    def test_places_that_hold_no_number(self):
        for term in ("a", ("f", 1), ("at", 1), ("+", 1, 2), ("*", 0, 0), ("-", 1, 1), ("mod", 1, 2)):
            self.worth(None, ("at", 0), (term, 1))
            self.worth(None, ("+", ("at", 0), 1), (term, 1))
            self.worth(None, ("*", 1, ("at", 0)), (term, 1))
            self.worth(1, ("at", 1), (term, 1))
            self.worth(2, ("+", 1, ("at", 1)), (term, 1))

    def test_no_worth_anywhere_in_a_tree_leaves_it_without(self):
        nones = [("//", 1, 0), ("mod", 1, 0), ("at", 0), ("+", 1, ("//", 1, 0)), ("//", ("mod", 1, 0), 3)]
        for none, sign in itertools.product(nones, SIGNS):
            self.worth(None, (sign, none, 2), ("a",))
            self.worth(None, (sign, 2, none), ("a",))
            self.worth(None, ("-", 5, (sign, ("*", 2, none), 3)), ("a",))
        for none in nones:
            self.worth(None, ("*", 0, none), ("a",))
            self.worth(None, ("*", none, 0), ("a",))
            self.worth(None, ("*", 0, ("+", 1, ("*", 0, none))), ("a",))
            self.worth(None, ("-", none, none), ("a",))
            self.worth(None, ("//", none, 0), ("a",))
            self.worth(None, ("mod", 0, none), ("a",))

    def test_far_beyond_sixty_figures(self):
        self.worth(BIG + 1, ("+", BIG, 1))
        self.worth(BIG ** 15, chain("*", 14, BIG, BIG))
        self.worth(1, ("//", chain("*", 9, BIG, BIG), chain("*", 9, BIG, BIG)))
        self.worth(-BIG ** 10, ("-", 0, chain("*", 9, BIG, BIG)))
        self.worth(1, ("mod", ("*", BIG, BIG), 10))
        self.worth(0, ("-", ("*", BIG, BIG), ("*", BIG, BIG)))

    def test_twelve_deep_and_sixty_things(self):
        self.worth(12, chain("+", 11))
        right = 1
        for _ in range(11):
            right = ("-", 20, right)
        self.worth(19, right)
        full = ("+", ("+", ("*", 2, 3), ("*", 4, 5)), ("-", ("*", 6, 7), ("+", 8, 9)))
        self.worth(26 + 25, full)
        # As each sign has two sides, a tree has 59 things at most: here 30 numbers and 29 signs.
        wide = ("+", full, ("+", full, ("+", full, chain("+", 5))))
        self.assertEqual(oracle.size(wide), 59)
        self.worth(3 * 51 + 6, wide)

    def test_a_worth_is_never_a_truth(self):
        for tree in (0, 1, ("at", 0), ("mod", 3, 2), ("//", 3, 2), ("*", 1, 1), ("-", 1, 1), ("mod", 1, 1)):
            self.assertIs(type(worth_of(tree, (1,))), int)

    def test_trees_by_chance(self):
        chance = random.Random(30)
        for _ in range(600):
            places = tuple(chance.choice([0, 1, -2, 5, chance.randint(-99, 99), "a", ("at", 0)]) for _ in range(3))
            tree = any_tree(chance, chance.randint(1, 7), 3)
            self.worth(slow.worth(tree, places), tree, places)


class HoldsTest(Case):
    def row(self, wanted, left, right, places=()):
        """Which of the four signs hold, in their order."""
        for sign, each in zip(TEST_SIGNS, wanted):
            with self.subTest(sign=sign, left=left, right=right):
                self.assertIs(holds((sign, left, right), places), each)

    def test_less_equal_and_greater(self):
        self.row([True, True, False, True], 1, 2)
        self.row([False, True, True, False], 2, 2)
        self.row([False, False, False, True], 3, 2)
        self.row([True, True, False, True], -3, -2)
        self.row([False, True, True, False], 0, 0)
        self.row([False, False, False, True], 0, -1)
        self.row([True, True, False, True], BIG, ("+", BIG, 1))
        self.row([False, True, True, False], ("*", BIG, BIG), ("*", BIG, BIG))

    def test_at_places(self):
        self.row([True, True, False, True], ("at", 0), ("at", 1), (4, 9))
        self.row([False, False, False, True], ("at", 1), ("at", 0), (4, 9))
        self.row([False, True, True, False], ("+", ("at", 0), 5), ("at", 1), (4, 9))

    def test_no_worth_on_either_side(self):
        nones = [("at", 0), ("//", 1, 0), ("*", 0, ("mod", 1, 0)), ("at", 1)]
        for none in nones:
            for other in (0, 1, -1, ("at", 2)):
                self.row([False] * 4, none, other, ("a", ("+", 1, 2), 3))
                self.row([False] * 4, other, none, ("a", ("+", 1, 2), 3))
            for other in nones:
                self.row([False] * 4, none, other, ("a", ("+", 1, 2), 3))

    def test_by_chance(self):
        chance = random.Random(31)
        for _ in range(300):
            places = tuple(chance.choice([0, 1, 2, chance.randint(-9, 9), "a"]) for _ in range(2))
            left, right = any_tree(chance, 4, 2), any_tree(chance, 3, 2)
            self.row([slow.holds((sign, left, right), places) for sign in TEST_SIGNS], left, right, places)


class EndsTest(Case):
    def ends(self, wanted, tree, *box):
        with self.subTest(tree=tree, box=box):
            told = ends_of(tree, box or ((0, 0),))
            self.assertEqual(told, wanted)
            self.assertIsInstance(told, tuple)

    def test_numbers_and_places(self):
        self.ends((4, 4), 4)
        self.ends((-4, -4), -4)
        self.ends((1, 3), ("at", 0), (1, 3), (5, 9))
        self.ends((5, 9), ("at", 1), (1, 3), (5, 9))
        self.ends((-2, 0), ("at", 2), (1, 3), (5, 9), (-2, 0))

    def test_plus_and_minus(self):
        one, two = ("at", 0), ("at", 1)
        self.ends((6, 12), ("+", one, two), (1, 3), (5, 9))
        self.ends((-8, -2), ("-", one, two), (1, 3), (5, 9))
        self.ends((2, 8), ("-", two, one), (1, 3), (5, 9))
        self.ends((-2, 2), ("-", one, one), (1, 3))
        self.ends((-9, 5), ("+", one, two), (-4, 3), (-5, 2))
        self.ends((-6, 8), ("-", one, two), (-4, 3), (-5, 2))

    def test_times_with_ends_below_at_and_above_nought(self):
        one, two = ("at", 0), ("at", 1)
        pairs = [(-7, -5), (-7, 0), (-7, 2), (0, 0), (0, 3), (2, 3), (-2, 7)]
        for left, right in itertools.product(pairs, repeat=2):
            products = [a * b for a in range(left[0], left[1] + 1) for b in range(right[0], right[1] + 1)]
            self.ends((min(products), max(products)), ("*", one, two), left, right)
        self.ends((-6, 9), ("*", one, one), (-2, 3))

    def test_quotients_and_rests(self):
        one, two = ("at", 0), ("at", 1)
        self.ends((-7, 7), ("//", one, two), (2, 7), (3, 4))
        self.ends((-7, 7), ("//", one, two), (-7, 2), (30, 40))
        self.ends((-9, 9), ("//", one, two), (-9, -4), (0, 0))
        self.ends((0, 0), ("//", one, two), (0, 0), (1, 1))
        self.ends((-4, 4), ("mod", one, two), (2, 7), (3, 4))
        self.ends((-5, 5), ("mod", one, two), (-70, 20), (-5, 4))
        self.ends((-5, 5), ("mod", one, two), (2, 2), (-5, -4))
        self.ends((0, 0), ("mod", one, 0), (2, 2))
        self.ends((-3, 3), ("mod", 100, 3))
        self.ends((-100, 100), ("//", 100, 3))

    def test_no_sign_tells_ends_the_wrong_way_round(self):
        pairs = [(low, high) for low in range(-3, 4) for high in range(low, 4)]
        for sign, left, right in itertools.product(SIGNS, pairs, pairs):
            low, high = ends_of((sign, ("at", 0), ("at", 1)), (left, right))
            self.assertLessEqual(low, high, (sign, left, right))

    def test_each_worth_over_a_box_lies_within(self):
        chance = random.Random(34)
        for _ in range(300):
            box, tree = any_box(chance, 2), any_tree(chance, 5, 2)
            low, high = ends_of(tree, box)
            self.assertEqual((low, high), slow.ends(tree, box))
            for point in slow.points(box, ()):
                worth = worth_of(tree, point)
                if worth is not None:
                    self.assertTrue(low <= worth <= high, (tree, box, point))

    def test_great_ends(self):
        self.ends((-BIG * BIG, BIG * BIG), ("*", ("at", 0), ("at", 0)), (-BIG, BIG))


class OutTest(Case):
    def is_out(self, wanted, sign, left, right):
        box = (left, right)
        with self.subTest(sign=sign, box=box):
            self.assertIs(out((sign, ("at", 0), ("at", 1)), box), wanted)

    def test_less(self):
        self.is_out(True, "<", (5, 9), (1, 5))
        self.is_out(False, "<", (4, 9), (1, 5))
        self.is_out(True, "<", (6, 9), (1, 5))
        self.is_out(True, "<", (2, 2), (2, 2))
        self.is_out(False, "<", (1, 9), (1, 2))

    def test_less_or_equal(self):
        self.is_out(False, "=<", (5, 9), (1, 5))
        self.is_out(True, "=<", (6, 9), (1, 5))
        self.is_out(False, "=<", (2, 2), (2, 2))
        self.is_out(True, "=<", (3, 3), (2, 2))

    def test_equal(self):
        self.is_out(True, "==", (1, 4), (5, 9))
        self.is_out(False, "==", (1, 5), (5, 9))
        self.is_out(True, "==", (6, 9), (1, 5))
        self.is_out(False, "==", (5, 9), (1, 5))
        self.is_out(False, "==", (1, 9), (3, 4))
        self.is_out(False, "==", (3, 4), (1, 9))

    def test_unlike(self):
        self.is_out(True, "=/=", (4, 4), (4, 4))
        self.is_out(True, "=/=", (0, 0), (0, 0))
        self.is_out(False, "=/=", (4, 4), (5, 5))
        self.is_out(False, "=/=", (4, 5), (4, 4))
        self.is_out(False, "=/=", (4, 4), (3, 4))
        self.is_out(False, "=/=", (4, 5), (4, 5))

    def test_the_ends_tell_alone(self):
        # At no point is X - X less than nought, yet the ends don't show it.
        self.assertIs(out(("<", ("-", ("at", 0), ("at", 0)), 0), ((1, 3),)), False)
        self.assertIs(out(("<", ("-", ("at", 0), ("at", 0)), -2), ((1, 3),)), True)
        # A part without a worth is not out by that.
        self.assertIs(out(("==", ("//", 5, 0), 5), ((1, 3),)), False)

    def test_no_point_passes_what_is_out(self):
        chance = random.Random(35)
        seen = {True: 0, False: 0}
        for _ in range(400):
            box = any_box(chance, 2, 3)
            test = (chance.choice(TEST_SIGNS), any_tree(chance, 3, 2), any_tree(chance, 2, 2))
            told = out(test, box)
            self.assertIs(told, slow.is_out(test, box), (test, box))
            if told:
                self.assertEqual(slow.points(box, (test,)), [])
            seen[told] += 1
        self.assertGreater(min(seen.values()), 50)


if __name__ == "__main__":
    unittest.main()
