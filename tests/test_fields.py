"""[32], [33], [36], [37]: fields resolved, the points of boxes, tight boxes, and cut papers."""

import random
import unittest

from goalstead.errors import Open
from goalstead.fields import cuts_of, points_of, resolved, shown, tight_of
from goalstead.reader import read_goal
from tests import slow
from tests.helpers import Case
from tests.test_sums import any_box, any_tree

BIG = 10 ** 60 - 1
AT = [("at", 0), ("at", 1), ("at", 2)]
TEST_SIGNS = ("<", "=<", "==", "=/=")

# Sums that have no worth, and one that has more than 60 figures.
NONE = ("//", 1, 0)
GREAT = ("+", BIG, 1)


def field(*pairs, tests=()):
    """A field with a range for each pair of sums, their unknowns A, B, C."""
    ranges = [("in", name, ("..", first, second)) for name, (first, second) in zip("ABC", pairs)]
    goal = joined(ranges)
    return ("such", goal, joined(list(tests))) if tests else goal


def joined(parts):
    return parts[0] if len(parts) == 1 else ("and", parts[0], joined(parts[1:]))


class ResolvedTest(Case):
    def told(self, wanted, goal, filling=()):
        with self.subTest(goal=goal, filling=filling):
            handed = dict(filling)
            self.assertEqual(resolved(goal, handed), wanted)
            self.assertEqual(handed, dict(filling))

    def open(self, goal, filling=()):
        with self.subTest(goal=goal, filling=filling):
            handed = dict(filling)
            self.assert_refused(Open, {}, resolved, goal, handed)
            self.assertEqual(handed, dict(filling))
            # What was refused may be asked again.
            self.assert_refused(Open, {}, resolved, goal, handed)

    def test_boxes_of_one_two_and_three_ranges(self):
        self.told((((1, 9),), ()), field((1, 9)))
        self.told((((1, 9), (-3, 3)), ()), field((1, 9), (-3, 3)))
        self.told((((1, 9), (-3, 3), (5, 5)), ()), field((1, 9), (-3, 3), (5, 5)))
        self.told((((3, 10),), ()), field((("+", "X", 1), ("*", "Y", "X"))), {"X": 2, "Y": 5})
        self.told((((3, 3),), ()), field((3, 3)), {"X": "a", "Q": ("f", 1)})

    def test_tests_become_trees(self):
        goal = read_goal("A in 1 .. 4 and B in 0 .. X such A + B < X * 2 and A =/= B", [])
        self.told((((1, 4), (0, 3)), (("<", ("+", AT[0], AT[1]), ("*", 3, 2)), ("=/=", AT[0], AT[1]))), goal, {"X": 3})
        tests = [("<", 1, "A"), ("=<", "B", "X"), ("==", ("mod", "C", "Y"), 0), ("=/=", "A", ("-", "C", "X"))]
        wanted = (("<", 1, AT[0]), ("=<", AT[1], 5), ("==", ("mod", AT[2], -2), 0), ("=/=", AT[0], ("-", AT[2], 5)))
        self.told((((1, 2), (1, 2), (1, 2)), wanted), field((1, 2), (1, 2), (1, 2), tests=tests), {"X": 5, "Y": -2})

    def test_tests_is_a_tuple_and_so_is_the_box(self):
        box, tests = resolved(field((1, 2), tests=[("<", "A", 2)]), {})
        self.assertEqual((type(box), type(box[0]), type(tests)), (tuple, tuple, tuple))
        self.assertEqual(resolved(field((1, 2)), {})[1], ())

    def test_a_ranges_unknown_that_is_known_already(self):
        goal = field((1, 4), tests=[("<", "A", "X")])
        for known in (2, 77, "a", ("at", 0), ("f", 1)):
            self.told((((1, 4),), (("<", AT[0], 3),)), goal, {"A": known, "X": 3})
        both = field((1, 4), (2, 2), tests=[("==", "B", "A")])
        self.told((((1, 4), (2, 2)), (("==", AT[1], AT[0]),)), both, {"B": "a"})

    def test_no_way_where_a_sum_has_no_worth(self):
        for none in (NONE, ("mod", 3, 0), "X", ("*", 0, "X"), ("+", 1, "Y"), ("*", "Z", NONE)):
            filling = {"X": "a", "Y": ("at", 0), "Z": 0}
            self.told(None, field((none, 3)), filling)
            self.told(None, field((1, none)), filling)
            self.told(None, field((1, 3), (none, 3)), filling)
            self.told(None, field((1, 3), (1, 3), (1, none)), filling)

    def test_open_where_a_worth_has_more_than_sixty_figures(self):
        for great in (GREAT, ("-", 0, GREAT), ("*", BIG, 2), ("*", "X", "X")):
            self.open(field((great, 3)), {"X": 10 ** 30})
            self.open(field((1, great)), {"X": 10 ** 30})
            self.open(field((1, 3), (great, 3)), {"X": 10 ** 30})
            self.open(field((1, 3), (1, 3), (1, great)), {"X": 10 ** 30})
        self.told((((BIG, BIG),), ()), field((BIG, BIG)))
        self.told((((-BIG, 1 - BIG),), ()), field((-BIG, ("-", 1, BIG))))
        self.told((((BIG, BIG),), ()), field((("-", ("+", BIG, 1), 1), BIG)))
        self.told((((1, 1),), ()), field((("//", ("*", BIG, BIG), ("*", BIG, BIG)), 1)))

    def test_which_of_two_faults_is_met_first(self):
        self.told(None, field((NONE, GREAT)))
        self.open(field((GREAT, NONE)))
        self.told(None, field((NONE, 1), (GREAT, 1)))
        self.open(field((GREAT, 1), (NONE, 1)))
        self.told(None, field((1, NONE), (GREAT, 1)))
        self.open(field((1, GREAT), (NONE, 1)))
        self.told(None, field((1, 2), (NONE, 1), (1, GREAT)))
        self.open(field((1, 2), (1, GREAT), (NONE, 1)))

    def test_sums_go_ahead_of_empty_ranges_and_of_many_points(self):
        self.open(field((2, 1), (GREAT, 1)))
        self.open(field((2, GREAT), (3, 1)))
        self.open(field((2, ("-", 0, GREAT))))
        self.told(None, field((1, 999), (NONE, 1)))
        self.told(None, field((1, 999), (1, NONE)))

    def test_an_empty_range_goes_ahead_of_many_points(self):
        self.told(None, field((2, 1)))
        self.told(None, field((BIG, -BIG)))
        self.told(None, field((1, 401), (2, 1)))
        self.told(None, field((2, 1), (1, 401)))
        self.told(None, field((-BIG, BIG), (1, 9), (0, -1)))
        self.told((((1, 1),), ()), field((1, 1)))

    def test_just_four_hundred_points_and_one_more(self):
        self.told((((1, 400),), ()), field((1, 400)))
        self.open(field((1, 401)))
        self.open(field((0, 400)))
        self.told((((-BIG, 399 - BIG),), ()), field((-BIG, ("-", 399, BIG))))
        self.open(field((-BIG, BIG)))
        self.told((((1, 20), (1, 20)), ()), field((1, 20), (1, 20)))
        self.open(field((1, 20), (1, 21)))
        self.open(field((1, 401), (1, 1)))
        self.told((((1, 1), (1, 400)), ()), field((1, 1), (1, 400)))
        self.told((((1, 8), (1, 5), (1, 10)), ()), field((1, 8), (1, 5), (1, 10)))
        self.open(field((1, 1), (1, 401), (1, 1)))
        self.open(field((1, 8), (1, 8), (1, 7)))

    def test_a_tests_unknown_whose_term_is_no_number(self):
        for term in ("a", ("f", 1), ("at", 0), ("+", 1, 2)):
            self.told(None, field((1, 3), tests=[("<", "A", "X")]), {"X": term})
            self.told(None, field((1, 3), tests=[("<", "A", 9), ("=/=", 1, ("*", 0, "X"))]), {"X": term})
            # The box is looked at ahead of that.
            self.open(field((1, 401), tests=[("<", "A", "X")]), {"X": term})
            self.open(field((1, GREAT), tests=[("<", "A", "X")]), {"X": term})
        self.told((((1, 3),), (("<", AT[0], NONE),)), field((1, 3), tests=[("<", "A", NONE)]))
        self.told((((1, 3),), (("<", GREAT, AT[0]),)), field((1, 3), tests=[("<", GREAT, "A")]))

    def test_by_chance(self):
        chance = random.Random(32)
        sums = [0, 1, 2, 9, "X", "Y", NONE, GREAT, ("+", "X", 1), ("*", "Y", 20), ("*", 100, "X"), 398]
        seen = {}
        for _ in range(1500):
            many = chance.randint(1, 3)
            pairs = [(chance.choice([1, chance.choice(sums)]), chance.choice(sums)) for _ in range(many)]
            tests = [("<", chance.choice("ABC"[:many]), chance.choice(["X", "Y", 3]))][:chance.randint(0, 1)]
            goal = field(*pairs, tests=tests)
            filling = {"X": chance.choice([1, 2, 4, "a"]), "Y": chance.choice([0, 3, -1])}
            try:
                wanted = slow.resolve(goal, filling)
                self.told(wanted, goal, filling)
                seen[wanted is None] = True
            except slow.Opened:
                self.open(goal, filling)
                seen["open"] = True
        self.assertEqual(len(seen), 3)


# Boxes that have too many points, and boxes that have none, whatever their other pairs are.
OPEN_BOXES = [((1, 401),), ((0, 20), (1, 20)), ((1, 8), (1, 8), (1, 7)), ((-BIG, BIG), (3, 3))]
FULL_BOXES = [((1, 400),), ((-19, 0), (1, 20)), ((1, 8), (1, 5), (1, 10)), ((BIG - 399, BIG),)]
EMPTY_BOXES = [((1, 0),), ((1, 0), (1, 999)), ((-BIG, BIG), (4, 3)), ((1, 9), (9, 1), (1, 9)), ((2, 1), (2, 1))]


class PointsTest(Case):
    def points(self, wanted, box, *tests):
        with self.subTest(box=box, tests=tests):
            self.assertEqual(points_of(box, tests), wanted)

    def test_one_two_and_three_pairs_the_first_number_slowest(self):
        self.points([(2,), (3,), (4,)], ((2, 4),))
        self.points([(-1,), (0,), (1,)], ((-1, 1),))
        self.points([(1, 5), (1, 6), (2, 5), (2, 6)], ((1, 2), (5, 6)))
        self.points([(1, 5, -1), (1, 5, 0), (1, 6, -1), (1, 6, 0), (2, 5, -1), (2, 5, 0), (2, 6, -1), (2, 6, 0)],
                    ((1, 2), (5, 6), (-1, 0)))
        self.points([(7,)], ((7, 7),))
        self.points([(BIG,)], ((BIG, BIG),))

    def test_those_at_which_all_tests_hold(self):
        self.points([(13,)], ((1, 400),), ("==", ("*", AT[0], AT[0]), 169))
        self.points([(1, 2), (1, 3), (2, 3)], ((1, 3), (1, 3)), ("<", AT[0], AT[1]))
        self.points([(2, 1)], ((1, 3), (1, 3)), ("<", AT[1], AT[0]), ("=<", AT[0], 2))
        self.points([], ((1, 3),), ("<", AT[0], 1))
        self.points([], ((1, 3),), ("<", AT[0], NONE))
        self.points([(1,), (3,)], ((0, 3),), ("=<", 0, ("//", 6, AT[0])), ("=/=", AT[0], 2))
        nine = ("==", ("+", AT[0], ("+", AT[1], AT[2])), 9)
        four = [("=<", AT[0], AT[1]), ("=<", AT[1], AT[2]), nine, ("=/=", AT[0], AT[1])]
        self.points([(1, 2, 6), (1, 3, 5), (1, 4, 4), (2, 3, 4)], ((1, 7), (1, 7), (1, 7)), *four)

    def test_empty_pairs(self):
        for box in EMPTY_BOXES:
            self.points([], box)
            self.points([], box, ("==", 1, 1))

    def test_at_the_bound(self):
        for box in FULL_BOXES:
            self.points(slow.points(box, ()), box)
            self.assertEqual(len(points_of(box, ())), 400)
        for box in OPEN_BOXES:
            self.assert_refused(Open, {}, points_of, box, ())
            self.assert_refused(Open, {}, points_of, box, (("<", 1, 0),))

    def test_by_chance(self):
        chance = random.Random(33)
        for _ in range(200):
            box = any_box(chance, chance.randint(1, 3), 5)
            tests = any_tests(chance, len(box))
            self.points(slow.points(box, tests), box, *tests)

    def test_the_told_list_is_a_new_one(self):
        self.assert_new_each_time(points_of, ((1, 3),), ())


def any_tests(chance, pairs):
    return tuple((chance.choice(TEST_SIGNS), any_tree(chance, 3, pairs), any_tree(chance, 2, pairs))
                 for _ in range(chance.randint(0, 4)))


class TightTest(Case):
    def tight(self, wanted, box, *tests):
        with self.subTest(box=box, tests=tests):
            self.assertEqual(tight_of(box, tests), wanted)

    def test_a_box_that_is_tight_already(self):
        self.tight(((1, 9),), ((1, 9),))
        self.tight(((1, 9), (2, 2)), ((1, 9), (2, 2)))
        self.tight(((1, 9),), ((1, 9),), ("<", AT[0], 10), ("=/=", AT[0], 5))
        self.tight(((1, 400),), ((1, 400),))

    def test_one_that_is_brought_down_from_both_ends(self):
        self.tight(((4, 6),), ((1, 9),), ("<", 3, AT[0]), ("=<", AT[0], 6))
        self.tight(((2, 8),), ((1, 9),), ("=/=", AT[0], 1), ("=/=", AT[0], 9))
        self.tight(((7, 7),), ((1, 400),), ("==", ("*", AT[0], 3), 21))
        # The ends of a quotient are wide: 4 // 2 is 2, yet the ends don't show that it is not 4.
        self.tight(((4, 9),), ((-3, 9),), ("==", ("//", AT[0], 2), 4))

    def test_one_in_which_none_is_left(self):
        self.tight(None, ((1, 9),), ("<", AT[0], 1))
        self.tight(None, ((1, 9),), ("==", ("*", AT[0], 2), 5))
        self.tight(None, ((1, 9), (1, 9)), ("<", AT[0], AT[1]), ("<", AT[1], AT[0]))
        self.tight(None, ((1, 1),), ("=/=", AT[0], 1))
        self.tight(None, ((1, 9),), ("=/=", 2, 2))

    def test_one_within_which_no_test_holds(self):
        # The two hold together at no point, yet neither is out where one number stands for itself.
        tests = [("==", ("+", AT[0], AT[1]), 0), ("==", ("-", AT[0], AT[1]), 1)]
        self.tight(((0, 1), (-1, 0)), ((-1, 1), (-1, 1)), *tests)

    def test_pairs_that_hang_on_one_another(self):
        self.tight(((1, 2), (2, 3)), ((1, 3), (1, 3)), ("<", AT[0], AT[1]))
        self.tight(((1, 5), (2, 6), (3, 7)), ((1, 7), (1, 7), (1, 7)), ("<", AT[0], AT[1]), ("<", AT[1], AT[2]))
        self.tight(((5, 5), (5, 5)), ((1, 9), (5, 20)), ("==", AT[0], AT[1]), ("=<", AT[0], 5))
        self.tight(((8, 8), (9, 9), (10, 10)), ((8, 9), (5, 10), (5, 10)), ("<", AT[0], AT[1]), ("<", AT[1], AT[2]))

    def test_many_steps_to_and_fro(self):
        # Each pair brings the other down by one, again and again.
        self.tight(None, ((1, 20), (1, 20)), ("<", AT[0], AT[1]), ("<", AT[1], AT[0]))
        self.tight(((10, 10), (20, 20)), ((1, 20), (1, 20)), ("==", ("*", 2, AT[0]), AT[1]), ("=<", 10, AT[0]))

    def test_empty_and_open_boxes(self):
        for box in EMPTY_BOXES:
            self.tight(None, box)
            self.tight(None, box, ("<", AT[0], -BIG))
        for box in OPEN_BOXES:
            self.assert_refused(Open, {}, tight_of, box, ())
            self.assert_refused(Open, {}, tight_of, box, (("<", 1, 0),))
        for box in FULL_BOXES:
            self.tight(box, box)

    def test_the_greatest_of_all_tight_boxes_by_chance(self):
        chance = random.Random(36)
        seen = {}
        for _ in range(250):
            box = any_box(chance, chance.randint(1, 2), 4)
            tests = any_tests(chance, len(box))
            wanted = slow.tight(box, tests)
            self.tight(wanted, box, *tests)
            seen[wanted is None, wanted == box] = True
            for point in slow.points(box, tests):
                self.assertTrue(all(low <= number <= high for number, (low, high) in zip(point, wanted)))
        self.assertEqual(len(seen), 3)


def by_points(box, lines):
    """Lays behind the lines a paper that cuts the points off a box one at a time, from the end; tells its number."""
    for k, (low, high) in enumerate(box):
        if low < high:
            one = by_points(box[:k] + ((low, high - 1),) + box[k + 1:], lines)
            two = by_points(box[:k] + ((high, high),) + box[k + 1:], lines)
            lines.append(("cut", k, high - 1, one, two))
            return len(lines) - 1
    lines.append(("point",))
    return len(lines) - 1


class CutsTest(Case):
    def shown(self, wanted, box, tests, lines):
        with self.subTest(box=box, tests=tests, lines=lines):
            handed = list(lines)
            self.assertEqual(shown(box, tests, handed), wanted)
            self.assertEqual(handed, lines)

    def test_a_told_paper_is_taken_and_shows_just_the_points(self):
        chance = random.Random(37)
        for _ in range(150):
            box = any_box(chance, chance.randint(1, 3), 5)
            tests = any_tests(chance, len(box))
            wanted = slow.points(box, tests)
            lines = cuts_of(box, tests)
            self.shown(wanted, box, tests, lines)
            self.assertEqual(slow.shows(box, tests, lines), wanted)

    def test_papers_of_the_greatest_boxes(self):
        for box in FULL_BOXES:
            for tests in ((), (("==", ("mod", AT[0], 7), 3),), (("<", AT[0], -BIG),)):
                lines = cuts_of(box, tests)
                self.assertEqual(slow.shows(box, tests, lines), slow.points(box, tests))
                self.shown(slow.points(box, tests), box, tests, lines)

    def test_lines_are_of_the_kinds_told(self):
        kinds = set()
        for line in cuts_of(((1, 4), (1, 5)), (("==", ("+", AT[0], AT[1]), 9),)):
            kinds.add((line[0], len(line)))
        self.assertLessEqual(kinds, {("cut", 5), ("out", 2), ("point", 1)})

    def test_empty_and_open_boxes(self):
        for box in EMPTY_BOXES:
            self.assertEqual(cuts_of(box, ()), [])
            self.shown([], box, (), [])
            self.shown([], box, (("==", 1, 1),), [])
            for line in (("point",), ("out", 0), ("cut", 0, 1, 0, 0)):
                self.shown(None, box, (("<", 1, 0),), [line])
        for box in OPEN_BOXES:
            self.assert_refused(Open, {}, cuts_of, box, ())
            self.assert_refused(Open, {}, shown, box, (), [])
            self.assert_refused(Open, {}, shown, box, (("<", 1, 0),), [("out", 0)])

    def test_the_list_without_lines_is_none_of_another_box(self):
        self.shown(None, ((1, 1),), (), [])
        self.shown(None, ((1, 3), (1, 3)), (("<", 1, 0),), [])

    def test_told_papers_are_new_ones(self):
        box = ((1, 3), (1, 2))
        first = cuts_of(box, ())
        kept = list(first)
        first.clear()
        self.assertEqual(shown(box, (), cuts_of(box, ())), slow.points(box, ()))
        self.assertEqual(cuts_of(box, ()), kept)
        self.assert_new_each_time(shown, box, (), kept)

    def test_a_paper_of_somebody_elses(self):
        box, tests = ((1, 4),), (("<", AT[0], 3),)
        lines = [("point",), ("out", 0), ("cut", 0, 1, 0, 0), ("cut", 0, 2, 2, 1)]
        self.shown([(1,), (2,)], box, tests, lines)
        # Out lines spare nothing but work: points at which a test does not hold are not shown.
        lines = [("point",), ("cut", 0, 1, 0, 0), ("cut", 0, 3, 0, 0), ("cut", 0, 2, 1, 2)]
        self.shown([(1,), (2,)], box, tests, lines)
        for box in (((1, 4),), ((1, 3), (2, 4)), ((1, 2), (1, 3), (-1, 1)), ((5, 5),), ((1, 400),)):
            for tests in ((), (("=/=", AT[0], 2),), (("<", AT[0], AT[-1 if len(box) == 3 else len(box) - 1]),)):
                lines = []
                by_points(box, lines)
                self.shown(slow.points(box, tests), box, tests, lines)

    def test_points_in_rising_order_whatever_is_cut_first(self):
        lines = [("point",), ("cut", 0, 1, 0, 0), ("cut", 1, 1, 1, 1)]
        self.shown([(1, 1), (1, 2), (2, 1), (2, 2)], ((1, 2), (1, 2)), (), lines)

    def test_a_line_that_is_come_to_more_than_once(self):
        lines = [("point",), ("cut", 1, 1, 0, 0), ("cut", 0, 1, 1, 1)]
        self.shown([(1, 1), (1, 2), (2, 1), (2, 2)], ((1, 2), (1, 2)), (), lines)
        # The same line fits one of the two boxes with which it is come to, but not the other.
        self.shown(None, ((1, 2), (1, 2)), (("<", AT[0], 2),), [("out", 0), ("cut", 0, 1, 0, 0)])
        self.shown(None, ((1, 3),), (), [("point",), ("cut", 0, 1, 0, 0)])

    def test_where_a_cut_fits(self):
        wide = [("point",), ("point",)]
        for at, wanted in ((0, None), (1, [(1,), (2,)]), (2, None), (-1, None), (BIG, None)):
            self.shown(wanted, ((1, 2),), (), wide + [("cut", 0, at, 0, 1)])
        for k in (-2, -1, 1, 2, BIG, -BIG):
            self.shown(None, ((1, 2),), (), wide + [("cut", k, 1, 0, 1)])
        for k, wanted in ((-1, None), (0, None), (1, [(1, 1), (1, 2)]), (2, None), (-2, None)):
            self.shown(wanted, ((1, 1), (1, 2)), (), wide + [("cut", k, 1, 0, 1)])
        self.shown(None, ((1, 1), (1, 2)), (), [("point",), ("cut", 3, 1, 0, 0), ("cut", -1, 1, 1, 1)])
        # A cut leaves no pair empty, though lines may be that fit a box with an empty one.
        self.shown(None, ((1, 1),), (("<", AT[0], 2),), [("point",), ("out", 0), ("cut", 0, 1, 0, 1)])
        self.shown(None, ((1, 1),), (("<", 0, AT[0]),), [("point",), ("out", 0), ("cut", 0, 0, 1, 0)])

    def test_line_numbers_below_nought_and_not_below_the_cuts_own(self):
        for one in (0, 1, 2, 3, -1, -2, BIG, -BIG):
            wanted = [(1,), (2,)] if one in (0, 1) else None
            self.shown(wanted, ((1, 2),), (), [("point",), ("point",), ("cut", 0, 1, one, 0)])
            self.shown(wanted, ((1, 2),), (), [("point",), ("point",), ("cut", 0, 1, 0, one)])
        self.shown(None, ((1, 2),), (), [("cut", 0, 1, 0, 0)])
        self.shown(None, ((1, 2), (1, 2)), (), [("cut", 0, 1, 1, 1), ("point",), ("cut", 1, 1, 0, 0)])

    def test_where_an_out_line_fits(self):
        tests = (("<", AT[0], 9), ("<", AT[0], 3))
        for n, wanted in ((0, None), (1, []), (2, None), (-1, None), (-2, None), (BIG, None), (-BIG, None)):
            self.shown(wanted, ((3, 5),), tests, [("out", n)])
        self.shown(None, ((2, 5),), tests, [("out", 1)])
        self.shown(None, ((1, 1),), (), [("out", 0)])

    def test_where_a_point_line_fits(self):
        self.shown([(1,)], ((1, 1),), (), [("point",)])
        self.shown([], ((1, 1),), (("<", AT[0], 1),), [("point",)])
        self.shown([(1, 4, 9)], ((1, 1), (4, 4), (9, 9)), (), [("point",)])
        self.shown(None, ((1, 2),), (), [("point",)])
        self.shown(None, ((1, 1), (4, 5)), (), [("point",)])
        self.shown(None, ((1, 2),), (("<", AT[0], 1),), [("point",)])

    def test_lines_that_are_not_come_to(self):
        stray = [("cut", 9, 9, 9, 9), ("out", 7), ("cut", 0, 0, -1, -1)]
        self.shown([(1,)], ((1, 1),), (), stray + [("point",)])
        self.shown([(1,), (2,)], ((1, 2),), (), stray + [("point",), ("out", 0), ("cut", 0, 1, 3, 3)])
        # The last line is where the walk begins.
        self.shown(None, ((1, 1),), (), [("point",)] + stray)

    def test_changed_papers_by_chance(self):
        chance = random.Random(370)
        seen = {}
        for _ in range(600):
            box = any_box(chance, chance.randint(1, 2), 3)
            tests = any_tests(chance, len(box))
            lines = cuts_of(box, tests)
            number = chance.randrange(len(lines))
            line = list(lines[number])
            if len(line) > 1:
                at = chance.randrange(1, len(line))
                line[at] += chance.choice([-1, 1, 2, -BIG])
            lines[number] = tuple(line) if chance.random() < 0.8 else chance.choice([("point",), ("out", 0)])
            wanted = slow.shows(box, tests, lines)
            self.shown(wanted, box, tests, lines)
            seen[wanted is None] = True
            if wanted is not None:
                self.assertEqual(wanted, slow.points(box, tests))
        self.assertEqual(len(seen), 2)


class HandedTest(Case):
    def test_what_is_told_does_not_hang_on_what_was_told_before(self):
        box, tests = ((1, 3), (1, 3)), (("<", AT[0], AT[1]),)
        points_of(box, tests).clear()
        self.assertEqual(points_of(box, tests), [(1, 2), (1, 3), (2, 3)])
        lines = cuts_of(box, tests)
        shown(box, tests, lines).append((9, 9))
        self.assertEqual(shown(box, tests, lines), [(1, 2), (1, 3), (2, 3)])


if __name__ == "__main__":
    unittest.main()
