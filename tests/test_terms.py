"""[5] to [9], and [2] of them: terms, their order, fillings, titles and facts."""

import itertools
import random
import unittest

from goalstead.terms import (
    calls_in_order, depth_of, fact_of, in_order, matched, put_in, rows_in_order, size_of,
    title_of, unknowns_of,
)
from tests import oracle
from tests.helpers import Case

BIG = 10 ** 60 - 1

# In their order by [7], each but the first behind the one ahead of it.
ORDERED = [
    -BIG, 1 - BIG, -10 ** 59, -10, -9, -1, 0, 1, 2, 9, 10, 11, 10 ** 59, BIG - 1, BIG,
    "a", "a1", "aa", "ab", "b", "b0", "zz",
    ("&", 1), ("*", "z"), ("+", 0), ("a", -2), ("a", -1), ("a", 3), ("a", "a"), ("a", "b"),
    ("a", ("a", 1)), ("a", ("a", 2)), ("a", ("b", 1)), ("a", ("a", 0, 0)), ("a1", 0), ("ab", 0), ("b", -5),
    ("+", "a", "b"), ("a", 1, 9), ("a", 1, "a"), ("a", 2, 1), ("a", "x", 0), ("a", ("a", 9), 0),
    ("z", 0, 0), ("a", 0, 0, 0), ("a", 0, 0, 1), ("a", 0, 1, 0), ("a", 1, 0, 0), ("$", 0, 0, 0, 0),
    ("a", 0, 0, 0, 0), ("a", 0, 0, 0, 1),
]


def nested(depth, inmost="a"):
    """A tuple in a tuple .. of that depth and as great a size."""
    term = inmost
    for _ in range(depth - 1):
        term = ("f", term)
    return term


def full(depth):
    """A term of that depth in which every tuple has two parts."""
    return 1 if depth == 1 else ("g", full(depth - 1), full(depth - 1))


class SizeTest(Case):
    def test_size_and_depth(self):
        rows = [
            (0, 1, 1), (-5, 1, 1), (BIG, 1, 1), ("a", 1, 1), ("Abc", 1, 1),
            (("f", 1), 2, 2), (("f", "X"), 2, 2), (("+", 1, 2), 3, 2), (("f", "a", "b", "c"), 4, 2),
            (("f", "a", "b", "c", "d"), 5, 2), (("f", ("f", 1)), 3, 3),
            (("f", ("g", 1, 2), "X"), 5, 3), (("f", "X", ("g", 1, 2)), 5, 3),
            (("f", ("g", "a"), ("h", ("g", "a"), 1), ("g", 1, 2, 3), 0), 12, 4),
            (("f", "X", "X"), 3, 2), (("f", ("f", ("f", ("f", "a", "b", "c", "d")))), 8, 5),
        ]
        for pattern, size, depth in rows:
            with self.subTest(pattern):
                self.assertEqual(size_of(pattern), size)
                self.assertEqual(depth_of(pattern), depth)

    def test_readings_with_kept_names_are_counted_likewise(self):
        self.assertEqual(size_of(("not", ("=", "X", "a"))), 4)
        self.assertEqual(depth_of(("not", ("=", "X", "a"))), 3)

    def test_beyond_the_bounds_of_patterns(self):
        self.assertEqual((size_of(nested(24)), depth_of(nested(24))), (24, 24))
        self.assertEqual((size_of(full(13)), depth_of(full(13))), (2 ** 13 - 1, 13))
        left = 1
        for _ in range(23):
            left = ("f", left, 2, "b")
        self.assertEqual((size_of(left), depth_of(left)), (3 * 23 + 1, 24))


class UnknownsTest(Case):
    def test_each_once_as_they_first_stand(self):
        rows = [
            (7, []), ("a", []), ("A", ["A"]), ("Zed9", ["Zed9"]), (("f", "a", 1), []),
            (("f", "Y", "X"), ["Y", "X"]), (("f", "X", "Y", "X"), ["X", "Y"]),
            (("f", ("g", "C", "B"), "A", ("h", "B", "D")), ["C", "B", "A", "D"]),
            (("f", "B", ("g", "A", ("h", "C")), "D"), ["B", "A", "C", "D"]),
            (("f", ("g", ("h", "Z"), "Y"), ("g", "X"), "Z"), ["Z", "Y", "X"]),
            (("+", "A", ("*", "B", "A")), ["A", "B"]), (("f", 1, "a", "X", "b"), ["X"]),
        ]
        for pattern, wanted in rows:
            with self.subTest(pattern):
                self.assertEqual(unknowns_of(pattern), wanted)

    def test_the_told_list_is_a_new_one(self):
        self.assert_new_each_time(unknowns_of, ("f", "X", "Y"))
        self.assert_new_each_time(unknowns_of, "X")
        one = unknowns_of("a")
        one.append("X")
        self.assertEqual(unknowns_of("a"), [])

    def test_deep_patterns(self):
        self.assertEqual(unknowns_of(nested(24, "Deep")), ["Deep"])


class OrderTest(Case):
    def test_each_pair_stands_as_told(self):
        for low, high in itertools.combinations(ORDERED, 2):
            with self.subTest(low=low, high=high):
                self.assertEqual(in_order([low, high]), [low, high])
                self.assertEqual(in_order([high, low]), [low, high])

    def test_whole_lists(self):
        chance = random.Random(3)
        for _ in range(20):
            mixed = ORDERED + ORDERED[::3]
            chance.shuffle(mixed)
            self.assertEqual(in_order(mixed), oracle.in_order(mixed))
        self.assertEqual(in_order(ORDERED[::-1]), ORDERED)

    def test_alike_ones_as_often_as_they_come(self):
        self.assertEqual(in_order(["b", 1, "b", 1, ("f", 1), 1, ("f", 1)]), [1, 1, 1, "b", "b", ("f", 1), ("f", 1)])
        self.assertEqual(in_order([]), [])

    def test_deep_terms(self):
        self.assertEqual(in_order([nested(24, 2), nested(24, 1), nested(23, 5)]),
                         [nested(23, 5), nested(24, 1), nested(24, 2)])

    def test_the_handed_list_stays_and_the_told_one_is_new(self):
        for handed in (["b", "a", 3], [3, "a", "b"], []):
            kept = list(handed)
            told = in_order(handed)
            self.assertIsNot(told, handed)
            told.append("more")
            self.assertEqual(handed, kept)
        self.assert_new_each_time(in_order, ["b", "a"])
        self.assert_new_each_time(in_order, ["a", "b"])


class RowOrderTest(Case):
    def test_rows_by_their_terms_from_the_left(self):
        rows = [(a, b) for a in ORDERED[::4] for b in ORDERED[1::5]]
        mixed = list(rows)
        random.Random(4).shuffle(mixed)
        self.assertEqual(rows_in_order(mixed), rows)
        self.assertEqual(rows_in_order(mixed), oracle.rows_in_order(mixed))

    def test_the_first_unlike_term_decides(self):
        rows = [(1, "z", 9), (1, ("a", 0), 0), (2, "a", 0), ("a", 0, 0)]
        self.assertEqual(rows_in_order(rows[::-1]), rows)

    def test_alike_rows_and_rows_without_terms(self):
        self.assertEqual(rows_in_order([(), ()]), [(), ()])
        self.assertEqual(rows_in_order([(2,), (1,), (2,)]), [(1,), (2,), (2,)])
        self.assertEqual(rows_in_order([]), [])

    def test_the_handed_list_stays_and_the_told_one_is_new(self):
        handed = [(2,), (1,)]
        rows_in_order(handed).append((3,))
        self.assertEqual(handed, [(2,), (1,)])
        self.assert_new_each_time(rows_in_order, [(2,), (1,)])
        self.assert_new_each_time(rows_in_order, [(1,), (2,)])


class CallOrderTest(Case):
    CALLS = [
        ("*/2", "--", ()),
        ("a/0", "", ()),
        ("a/1", "+", (-3,)),
        ("a/1", "+", (2,)),
        ("a/1", "+", ("a",)),
        ("a/1", "+", (("a", 1),)),
        ("a/1", "-", ()),
        ("a/2", "++", (1, "z")),
        ("a/2", "++", (1, ("a", 1))),
        ("a/2", "++", (2, 0)),
        ("a/2", "+-", (0,)),
        ("a/2", "-+", (0,)),
        ("a/2", "--", ()),
        ("a1/1", "+", (0,)),
        ("ab/1", "+", (0,)),
        ("b/0", "", ()),
        ("b/1", "+", (0,)),
    ]

    def test_by_title_then_mode_then_ins(self):
        for low, high in itertools.combinations(self.CALLS, 2):
            with self.subTest(low=low, high=high):
                self.assertEqual(calls_in_order([high, low]), [low, high])
                self.assertEqual(calls_in_order([low, high]), [low, high])
        self.assertEqual(calls_in_order(self.CALLS[::-1]), self.CALLS)

    def test_alike_calls_as_often_as_they_come(self):
        one, two = self.CALLS[2], self.CALLS[3]
        self.assertEqual(calls_in_order([two, one, two, one]), [one, one, two, two])
        self.assertEqual(calls_in_order([]), [])

    def test_the_handed_list_stays_and_the_told_one_is_new(self):
        handed = self.CALLS[::-1]
        kept = list(handed)
        calls_in_order(handed).clear()
        self.assertEqual(handed, kept)
        self.assert_new_each_time(calls_in_order, self.CALLS)
        self.assert_new_each_time(calls_in_order, self.CALLS[::-1])


class MatchedTest(Case):
    def test_what_matches(self):
        rows = [
            (5, 5, {}, {}), (-5, -5, {}, {}), ("a", "a", {}, {}), (BIG, BIG, {}, {}),
            ("X", 5, {}, {"X": 5}), ("X", "a", {}, {"X": "a"}), ("X", ("f", 1), {}, {"X": ("f", 1)}),
            (("f", "X", "Y"), ("f", 1, "b"), {}, {"X": 1, "Y": "b"}),
            (("f", "X", "X"), ("f", 1, 1), {}, {"X": 1}),
            (("f", "X", ("g", "X")), ("f", ("h", 1), ("g", ("h", 1))), {}, {"X": ("h", 1)}),
            ("X", 5, {"X": 5}, {"X": 5}), ("X", 5, {"Y": 6}, {"X": 5, "Y": 6}),
            (("f", "X", "Y"), ("f", 1, 2), {"X": 1, "Z": 3}, {"X": 1, "Y": 2, "Z": 3}),
            (("+", "X", 1), ("+", 3, 1), {}, {"X": 3}), (("f", "a", 1), ("f", "a", 1), {"X": 1}, {"X": 1}),
            (("f", "A", "B", "C", "D"), ("f", 1, 2, 3, 4), {}, {"A": 1, "B": 2, "C": 3, "D": 4}),
            (("f", ("g", "X")), ("f", ("g", ("g", 0))), {}, {"X": ("g", 0)}),
            ("X", 0, {}, {"X": 0}), ("X", 0, {"X": 0}, {"X": 0}),
        ]
        for pattern, term, filling, wanted in rows:
            with self.subTest(pattern=pattern, term=term, filling=filling):
                self.assertEqual(matched(pattern, term, filling), wanted)

    def test_what_does_not_match(self):
        rows = [
            (5, 6, {}), (5, -5, {}), (0, 1, {}), (BIG, BIG - 1, {}), ("a", "b", {}), (5, "a", {}), ("a", 5, {}),
            ("a", ("a", 1), {}), (("a", 1), "a", {}), (5, ("a", 5), {}), (("a", 5), 5, {}),
            (("f", 1), ("g", 1), {}), (("f", 1), ("f", 2), {}), (("f", 1), ("f", 1, 1), {}),
            (("f", 1, 1), ("f", 1), {}), (("f", "X"), ("f", 1, 1), {}), (("f", "X", "Y"), ("f", 1), {}),
            (("f", "X"), ("g", 1), {}), (("+", "X", 1), ("-", 3, 1), {}),
            (("f", "X", "X"), ("f", 1, 2), {}), (("f", "X", "X"), ("f", 1, "a"), {}),
            (("f", "X", ("g", "X")), ("f", 1, ("g", 2)), {}),
            ("X", 5, {"X": 6}), ("X", 5, {"X": "a"}), ("X", ("f", 1), {"X": ("f", 2)}), ("X", 5, {"X": 0}),
            ("X", 1, {"X": 0}), (("f", "Y", "X"), ("f", 5, 5), {"X": 6}),
            (("f", "X", "Y", 3), ("f", 1, 2, 4), {}), (("f", ("g", "X"), 1), ("f", ("g", 1), 2), {}),
            (("f", "a"), ("f", ("a", 1)), {}), (("f", ("g", "X")), ("f", "g"), {}),
        ]
        for pattern, term, filling in rows:
            with self.subTest(pattern=pattern, term=term, filling=filling):
                kept = dict(filling)
                self.assertIsNone(matched(pattern, term, filling))
                self.assertEqual(filling, kept)

    def test_the_handed_filling_stays_and_the_told_dict_is_new(self):
        for pattern, term, filling in (
            ("X", 5, {}), ("X", 5, {"X": 5}), ("a", "a", {"X": 5}), ("a", "a", {}),
            (("f", "X", "Y"), ("f", 1, 2), {"Z": 3}), (("f", "X", 1), ("f", 1, 1), {"X": 1}),
        ):
            with self.subTest(pattern=pattern, filling=filling):
                kept = dict(filling)
                told = matched(pattern, term, filling)
                self.assertIs(type(told), dict)
                self.assertIsNot(told, filling)
                self.assertEqual(filling, kept)
                told["More"] = 1
                self.assertEqual(filling, kept)
                self.assert_new_each_time(matched, pattern, term, filling)

    def test_a_filling_that_is_changed_later_changes_nothing(self):
        handed = {"Y": 1}
        told = matched("X", 5, handed)
        handed["Y"] = 2
        self.assertEqual(told, {"X": 5, "Y": 1})

    def test_great_and_deep_terms(self):
        self.assertEqual(matched(nested(24, "X"), nested(24, 9), {}), {"X": 9})
        self.assertIsNone(matched(nested(24, "X"), nested(23, 9), {}))
        self.assertEqual(matched("X", full(13), {"X": full(13)}), {"X": full(13)})
        self.assertIsNone(matched("X", nested(24, 1), {"X": nested(24, 2)}))


class PutInTest(Case):
    def test_terms_in_the_places_of_unknowns(self):
        rows = [
            (5, {}, 5), ("a", {}, "a"), ("X", {"X": 0}, 0), ("X", {"X": "a", "Y": 1}, "a"),
            ("X", {"X": ("f", 1)}, ("f", 1)), (("f", "a", -1), {}, ("f", "a", -1)),
            (("f", "X", "Y", "X"), {"X": 1, "Y": ("g", 2)}, ("f", 1, ("g", 2), 1)),
            (("f", ("g", "X"), ("h", ("g", "Y"), "a")), {"X": "b", "Y": 3}, ("f", ("g", "b"), ("h", ("g", 3), "a"))),
            (("+", "X", 1), {"X": ("+", 1, 1)}, ("+", ("+", 1, 1), 1)),
            (("f", "A", "B", "C", "D"), {"A": 1, "B": 2, "C": 3, "D": 4}, ("f", 1, 2, 3, 4)),
        ]
        for pattern, filling, wanted in rows:
            with self.subTest(pattern):
                kept = dict(filling)
                self.assertEqual(put_in(pattern, filling), wanted)
                self.assertEqual(filling, kept)

    def test_any_size_and_depth_may_come_of_it(self):
        told = put_in(nested(24, "X"), {"X": nested(24, 7)})
        self.assertEqual(told, nested(47, 7))
        told = put_in(("f", "X", "X", "X", "X"), {"X": full(10)})
        self.assertEqual(size_of(told), 1 + 4 * (2 ** 10 - 1))

    def test_what_was_matched_is_put_together_again(self):
        for pattern, term in (
            ("X", ("f", 1)), (5, 5), (("f", "X", ("g", "Y", "X")), ("f", 1, ("g", ("h", 2), 1))),
            (nested(12, "X"), nested(24, 3)),
        ):
            with self.subTest(pattern):
                self.assertEqual(put_in(pattern, matched(pattern, term, {"Z": 1})), term)


class TitleTest(Case):
    def test_titles(self):
        rows = [
            ("rain", "rain/0"), ("a1", "a1/0"), (("path", "X", 1), "path/2"), (("f", 1), "f/1"),
            (("f", 1, 2, 3), "f/3"), (("f", 1, 2, 3, 4), "f/4"), (("+", "X", 1), "+/2"), (("/", 1, 2), "//2"),
            (("//", 1, 2), "///2"), (("///", 1), "////1"), (("=>", ("f", 1, 2, 3)), "=>/1"),
            (("f", ("g", 1, 2), ("h", 1)), "f/2"),
        ]
        for pattern, wanted in rows:
            with self.subTest(pattern):
                self.assertEqual(title_of(pattern), wanted)


class FactTest(Case):
    def test_facts(self):
        rows = [
            (("rain/0", "", ()), (), "rain"),
            (("f/1", "+", (1,)), (), ("f", 1)),
            (("f/1", "-", ()), (1,), ("f", 1)),
            (("f/2", "++", (1, "b")), (), ("f", 1, "b")),
            (("f/2", "--", ()), (1, "b"), ("f", 1, "b")),
            (("f/2", "+-", (1,)), ("b",), ("f", 1, "b")),
            (("f/2", "-+", (1,)), ("b",), ("f", "b", 1)),
            (("f/3", "-+-", (1,)), ("b", "c"), ("f", "b", 1, "c")),
            (("f/3", "+-+", (1, 2)), ("b",), ("f", 1, "b", 2)),
            (("f/3", "--+", (1,)), ("b", "c"), ("f", "b", "c", 1)),
            (("f/4", "-++-", (1, 2)), ("b", "c"), ("f", "b", 1, 2, "c")),
            (("f/4", "+--+", (1, 2)), ("b", "c"), ("f", 1, "b", "c", 2)),
            (("f/4", "++--", (1, 2)), ("b", "c"), ("f", 1, 2, "b", "c")),
            (("f/4", "--++", (1, 2)), ("b", "c"), ("f", "b", "c", 1, 2)),
            (("f/4", "++++", (1, 2, 3, 4)), (), ("f", 1, 2, 3, 4)),
            (("f/4", "----", ()), (1, 2, 3, 4), ("f", 1, 2, 3, 4)),
            (("//2", "+-", (1,)), (2,), ("/", 1, 2)),
            (("///2", "-+", (1,)), (2,), ("//", 2, 1)),
            (("+/2", "++", (("f", 1), 2)), (), ("+", ("f", 1), 2)),
        ]
        for call, row, wanted in rows:
            with self.subTest(call=call, row=row):
                self.assertEqual(fact_of(call, row), wanted)

    def test_a_fact_has_its_calls_title(self):
        for name in ("f", "/", "//", "/=/"):
            for many in range(1, 5):
                mode = "+" * many
                call = (f"{name}/{many}", mode, tuple(range(many)))
                self.assertEqual(title_of(fact_of(call, ())), call[0])


if __name__ == "__main__":
    unittest.main()
