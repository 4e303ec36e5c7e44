"""[57] to [59]: runs of codes, and when codes fit a number of ins."""

import time
import unittest

from goalstead.codes import fits, run
from goalstead.errors import Open
from tests import slow, slow_codes
from tests.helpers import Case
from tests.slow_codes import CodeMaker
from tests.test_walking import BIG, flat, told_rows, tower

ONE, TWO, THREE = [("tell", tuple(range(many))) for many in (1, 2, 3)]
NONE = ("tell", ())


def e(*ins):
    return ("e/2", "+-", ins)


def h(*ins):
    return ("h/1", "-", ins)


HS = (h(), [(1,), ("a",), (("s", 1),), (2,)])
EVERY = ("call", "h/1", "-", (), 9)


class RunCase(Case):
    def run_of(self, wanted, codes, ins=(), told=()):
        """Codes that fit are run, also by the slow reading; what is handed in stays as it was."""
        handed = list(codes), [(call, list(rows)) for call, rows in told]
        with self.subTest(codes=codes, ins=ins, told=told):
            self.assertEqual(slow_codes.broken(codes, len(ins)), set())
            self.assertIs(fits(codes, len(ins)), True)
            if wanted is Open:
                self.assertRaises(slow.Opened, slow_codes.run, codes, ins, told_rows(told))
                for _ in range(2):
                    self.assert_refused(Open, {}, run, codes, ins, handed[1])
            else:
                found = run(codes, ins, handed[1])
                self.assertEqual(found, wanted)
                self.assertEqual([type(part) for part in (found, *found)], [tuple, list, list, list])
                self.assertEqual(slow_codes.run(codes, ins, told_rows(told)), wanted)
            self.assertEqual((codes, [(call, list(rows)) for call, rows in told]), handed)

    def answers(self, wanted, codes, ins=(), told=()):
        """What the codes answer, none of which is a mark; calls met are looked at elsewhere."""
        found = slow_codes.run(codes, ins, told_rows(told))
        self.assertEqual(found[0], wanted)
        self.run_of(found, codes, ins, told)


class EachTest(RunCase):
    def test_a_tell_alone(self):
        self.run_of(([()], [], []), [NONE])
        self.run_of(([()], [], []), [NONE], (1, 2))
        self.run_of(([(5, "a")], [], []), [TWO], (5, "a"))
        self.run_of(([("a", 5, "a", "a")], [], []), [("tell", (1, 0, 1, 1))], (5, "a"))

    def test_this(self):
        self.answers([(3,)], [("this", 0, 3), ONE], (3,))
        self.answers([], [("this", 0, 3), ONE], (-3,))
        self.answers([("a",)], [("this", 0, "a"), ONE], ("a",))
        for term in ("b", 3, ("a", 1), ("s", "a")):
            self.answers([], [("this", 0, "a"), ONE], (term,))
        self.answers([(1,)], [EVERY, ("this", 9, 1), ("tell", (9,))], (), [HS])

    def test_open(self):
        codes = [("open", 0, "f", 5, 2), ("tell", (6, 5, 0))]
        self.answers([(2, 1, ("f", 1, 2))], codes, (("f", 1, 2),))
        for term in (("g", 1, 2), ("f", 1), ("f", 1, 2, 3), "f", 1):
            self.answers([], codes, (term,))
        self.answers([("a", ("s", 1), 2, 3)], [("open", 0, "+", 1, 4), ("tell", (1, 2, 3, 4))],
                     (("+", "a", ("s", 1), 2, 3),))
        self.answers([(1,)], [EVERY, ("open", 9, "s", 3, 1), ("tell", (3,))], (), [HS])

    def test_same(self):
        codes = [("same", 0, 1), TWO]
        for term in (1, "a", ("s", 1), ("s", ("t", 1, "b"))):
            self.answers([(term, term)], codes, (term, term))
        for pair in ((1, 2), ("a", "b"), (1, "a"), (("s", 1), ("s", 2)), (("s", 1), ("t", 1)), (("s", 1), ("s", 1, 1))):
            self.answers([], codes, pair)
        self.answers([(1,)], [("same", 0, 0), ONE], (1,))
        self.answers([("a",)], [EVERY, ("same", 9, 0), ("tell", (9,))], ("a",), [HS])

    def test_put(self):
        self.answers([(7, "a", 1)], [("put", 1, "a"), ("put", 2, 7), ("tell", (2, 1, 0))], (1,))
        self.answers([(-BIG,)], [("put", 0, -BIG), ONE])

    def test_make(self):
        self.answers([(("f", 2, 1, 2),)], [("make", 7, "f", (1, 0, 1)), ("tell", (7,))], (1, 2))
        self.answers([(("s", ("s", 1)),)], [("make", 3, "s", (0,)), ("make", 2, "s", (3,)), ("tell", (2,))], (1,))
        self.answers([(("+", 1, 1, 1, 1),)], [("make", 3, "+", (0, 0, 0, 0)), ("tell", (3,))], (1,))

    def test_sum(self):
        tree = ("-", ("*", ("at", 0), 3), ("at", 1))
        self.answers([(7,)], [("sum", 2, tree), ("tell", (2,))], (3, 2))
        for ins in (("a", 2), (3, "a"), (3, ("s", 2)), (("at", 0), 2)):
            self.answers([], [("sum", 2, tree), ("tell", (2,))], ins)
        for tree, wanted in ((("//", -7, ("at", 0)), [(-4,)]), (("mod", -7, ("at", 0)), [(1,)]), (5, [(5,)]),
                             (("at", 0), [(2,)]), (("//", 1, ("-", ("at", 0), 2)), []),
                             (("*", 0, ("mod", 1, ("-", ("at", 0), 2))), [])):
            self.answers(wanted, [("sum", 1, tree), ("tell", (1,))], (2,))
        self.answers([], [("sum", 1, ("*", 0, ("at", 0))), ("tell", (1,))], ("a",))
        self.answers([(2,), (3,)], [EVERY, ("sum", 0, ("+", 1, ("at", 9))), ONE], (), [HS])

    def test_test(self):
        for sign, wanted in (("<", (2,)), ("=<", (2, 3)), ("==", (3,)), ("=/=", (2, 4))):
            for number in (2, 3, 4):
                found = [(number,)] if number in wanted else []
                self.answers(found, [("test", sign, ("at", 0), 3), ONE], (number,))
                self.answers(found, [("test", sign, ("+", 1, ("at", 0)), ("*", 2, 2)), ONE], (number,))
            for term in ("a", ("s", 3)):
                self.answers([], [("test", sign, ("at", 0), 3), ONE], (term,))
                self.answers([], [("test", sign, 3, ("at", 0)), ONE], (term,))
                self.answers([], [("test", sign, ("at", 0), ("at", 0)), ONE], (term,))
            self.answers([], [("test", sign, ("//", 1, 0), ("//", 1, 0)), NONE])
        self.answers([(BIG,)], [("test", "<", ("*", ("at", 0), 2), ("*", ("at", 0), 3)), ONE], (BIG,))

    def test_call(self):
        told = [(e(1), [(5,), (4,), ("b",)]), (e("a"), [(("s", 1),)]), (e(2), [])]
        codes = [("call", "e/2", "+-", (0,), 4), ("tell", (0, 4))]
        self.run_of(([(1, 5), (1, 4), (1, "b")], [], [e(1)]), codes, (1,), told)
        self.run_of(([("a", ("s", 1))], [], [e("a")]), codes, ("a",), told)
        self.run_of(([], [], [e(2)]), codes, (2,), told)
        # A call that the told list does not have has no rows.
        for term in (3, "b", ("s", 1), -1):
            self.run_of(([], [], [e(term)]), codes, (term,), told)

    def test_calls_in_other_modes(self):
        told = [(("e/2", "--", ()), [(2, 1), (1, 2)]), (("e/2", "++", (1, 2)), [()]), (("k/0", "", ()), [()]),
                (("g/4", "-+--", ("a",)), [(1, 2, 3)]), (("path/12", "+++", (1, 1, "a")), [()])]
        self.answers([(1, 2), (2, 1)], [("call", "e/2", "--", (), 0), ("tell", (1, 0))], (), told)
        self.answers([(1,)], [("call", "e/2", "++", (0, 1), 2), ONE], (1, 2), told)
        self.answers([], [("call", "e/2", "++", (1, 0), 2), ONE], (1, 2), told)
        self.answers([()], [("call", "k/0", "", (), 0), NONE], (), told)
        self.answers([(3, 2, 1, "a")], [("call", "g/4", "-+--", (0,), 1), ("tell", (3, 2, 1, 0))], ("a",), told)
        self.answers([()], [("call", "path/12", "+++", (0, 0, 1), 5), NONE], (1, "a"), told)

    def test_a_field(self):
        box = (((0, 2), (("at", 0), 5)), (), 3)
        points = [(a, b) for a in (0, 1, 2) for b in (4, 5)]
        self.answers(points, [("field", *box), ("tell", (3, 4))], (4,))
        tests = (("=/=", ("at", 3), 1), ("<", ("+", ("at", 3), ("at", 4)), ("+", ("at", 0), 3)))
        self.answers([(0, 4), (0, 5), (2, 4)], [("field", box[0], tests, 3), ("tell", (3, 4))], (4,))
        self.answers([], [("field", box[0], tests, 3), ("tell", (3, 4))], (6,))
        self.answers([(7, 8, 9)], [("field", ((7, 7), (8, 8), (9, 9)), (), 0), THREE])

    def test_a_fields_ranges(self):
        for ranges in (((2, 1),), ((1, 2), (2, 1)), ((("//", 1, 0), 3),), ((1, ("at", 0)),), ((("at", 0), 1),),
                       ((1, 401), (2, 1)), ((1, 10 ** 50), (2, 1)), ((1, ("at", 0)), (1, 401))):
            self.answers([], [("field", ranges, (), 3), NONE], ("a",))
        self.answers([()], [("field", ((-2, -2),), (), 3), NONE])

    def test_a_fields_tests_that_speak_of_other_places(self):
        tests = (("<", ("at", 1), ("at", 0)), ("=/=", ("at", 1), ("at", 2)))
        told = [(h(), [(2,), ("a",), (3,)])]
        codes = [("call", "h/1", "-", (), 2), ("field", ((1, 4),), tests, 1), ("tell", (2, 1))]
        self.answers([(2, 1), (2, 3), (3, 1), (3, 2)], codes, (4,), told)
        self.answers([], codes, ("a",), told)
        # A place that holds no number has no worth, whatever the test is.
        for sign in ("<", "=<", "==", "=/="):
            self.answers([], [("field", ((1, 4),), ((sign, ("at", 0), ("at", 0)),), 1), NONE], (("s", 1),))

    def test_a_mark(self):
        self.run_of(([()], [1, 1], []), [("mark",), ("mark",), NONE])
        self.run_of(([(1,)], [1], []), [("mark",), ONE], (1,))


class BehindTest(RunCase):
    """Codes behind others, and the order of states."""

    def test_states_in_order(self):
        told = [(h(), [(3,), (1,), (2,)]), (e(3), [("c",), ("a",)]), (e(1), [("b",)])]
        codes = [("call", "h/1", "-", (), 0), ("mark",), ("call", "e/2", "+-", (0,), 1), ("mark",), TWO]
        self.run_of(([(3, "c"), (3, "a"), (1, "b")], [3, 3], [e(1), e(2), e(3), h()]), codes, (), told)
        codes = [("call", "h/1", "-", (), 0), ("field", ((0, ("-", 3, ("at", 0))),), (), 1), TWO]
        self.run_of(([(3, 0), (1, 0), (1, 1), (1, 2), (2, 0), (2, 1)], [], [h()]), codes, (), told)

    def test_answers_as_often_as_they_come(self):
        codes = [EVERY, ("put", 3, 7), ("tell", (3,))]
        self.run_of(([(7,)] * 4, [], [h()]), codes, (), [HS])
        self.run_of(([(7, 7)] * 4, [], [h()]), [*codes[:2], ("tell", (3, 3))], (), [HS])
        self.run_of(([()] * 4, [], [h()]), [*codes[:2], NONE], (), [HS])

    def test_what_one_state_holds_another_does_not(self):
        codes = [EVERY, ("make", 1, "s", (9,)), ("make", 2, "t", (0, 1)), ("tell", (9, 2))]
        wanted = [(row[0], ("t", "z", ("s", row[0]))) for row in HS[1]]
        self.answers(wanted, codes, ("z",), [HS])

    def test_marks_ahead_of_between_and_behind(self):
        codes = [("mark",), EVERY, ("mark",), ("mark",), ("test", "<", ("at", 9), 2), ("mark",), ("this", 9, 5),
                 ("mark",), ("put", 3, 1), ("mark",), NONE]
        self.run_of(([], [1, 4, 4, 1, 0, 0], [h()]), codes, (), [HS])
        self.run_of(([()], [1, 2], [h()]),
                    [("mark",), EVERY, ("test", "=/=", ("at", 9), 2), ("mark",), ("this", 9, 1), NONE],
                    (), [(h(), [(1,), (2,), (3,)])])

    def test_calls_met_each_once_in_the_order_of_calls(self):
        told = [(h(), [("c",), (2,), ("b",), (1,), (("s", 1),)])]
        codes = [EVERY, ("call", "f/1", "+", (9,), 0), NONE]
        met = [("f/1", "+", (ins,)) for ins in (1, 2, "b", "c", ("s", 1))]
        self.run_of(([], [], [*met, h()]), codes, (), told)
        codes = [("call", "e/2", "--", (), 1), ("call", "e/2", "+-", (0,), 3), ("call", "e/2", "+-", (0,), 4),
                 ("bar", "e/2", "+-", (0,), 5, 0), ("bar", "a/1", "+", (0,), 6, 0), NONE]
        told = [(("e/2", "--", ()), [(1, 1)]), (e(7), [(1,)])]
        self.run_of(([], [], [e(7), ("e/2", "--", ())]), codes, (7,), told)
        told[1] = (e(7), [])
        self.run_of(([], [], [e(7), ("e/2", "--", ())]), codes, (7,), told)

    def test_calls_to_which_no_state_comes_are_not_met(self):
        codes = [("this", 0, 1), ("call", "f/1", "+", (0,), 1), ("bar", "k/0", "", (), 1, 0), ("mark",), NONE]
        self.run_of(([], [0], []), codes, (2,), [(("f/1", "+", (2,)), [()])])
        self.run_of(([()], [1], [("f/1", "+", (1,)), ("k/0", "", ())]), codes, (1,), [(("f/1", "+", (1,)), [()])])


class BarTest(RunCase):
    def bar(self, wanted, inner, rows, ins=()):
        codes = [("bar", "h/1", "-", (), 9, len(inner)), *inner, ("tell", tuple(range(len(ins))))]
        self.run_of(([ins] if wanted else [], [], [h()]), codes, ins, [(h(), rows)])

    def test_no_codes_behind(self):
        self.bar(True, [], [])
        self.bar(False, [], [(1,)])
        self.bar(False, [], [(1,), (2,)])

    def test_one_code_behind(self):
        self.bar(True, [("this", 9, 3)], [(1,), ("a",)])
        self.bar(False, [("this", 9, 3)], [(1,), (3,)])
        self.bar(False, [("this", 9, 3)], [(3,), (1,)])
        self.bar(True, [("same", 9, 0)], [(1,), (("s", 1),)], (2,))
        self.bar(False, [("same", 0, 9)], [(1,), (("s", 1),)], (("s", 1),))
        self.bar(True, [("open", 9, "s", 2, 1)], [("s",), (("t", 1),), (("s", 1, 2),)])
        self.bar(False, [("open", 9, "s", 2, 1)], [("s",), (("t", 1),), (("s", 2),)])
        # A code that looks at places ahead of the bar alone.
        self.bar(False, [("this", 0, 3)], [(1,)], (3,))
        self.bar(True, [("this", 0, 3)], [(1,)], (4,))
        self.bar(True, [("this", 0, 3)], [], (3,))

    def test_two_and_three_codes_behind(self):
        inner = [("open", 9, "t", 2, 2), ("same", 2, 3)]
        self.bar(True, inner, [(("t", 1, 2),), (("t", "a", 1),), (1,)])
        self.bar(False, inner, [(("t", 1, 2),), (("t", 1, 1),), (1,)])
        inner = [("open", 9, "t", 2, 2), ("open", 2, "s", 4, 1), ("same", 4, 0)]
        self.bar(True, inner, [(("t", 1, 2),), (("t", ("s", 1), 2),)], (2,))
        self.bar(False, inner, [(("t", 1, 2),), (("t", ("s", 1), 2),)], (1,))

    def test_within_a_bar_nothing_comes_of_any_row(self):
        self.bar(True, [("this", 9, 3), ("this", 9, 4)], [(3,), (4,)])

    def test_behind_a_bar_the_codes_go_on(self):
        told = [(h(), [(1,), (2,), (3,)]), (e(2), [("x",), ("y",)]), (e(3), [("y",)])]
        codes = [("call", "h/1", "-", (), 0), ("mark",), ("bar", "e/2", "+-", (0,), 1, 1), ("this", 1, "x"), ("mark",),
                 ("put", 2, "z"), ("tell", (0, 2))]
        self.run_of(([(1, "z"), (3, "z")], [3, 2], [e(1), e(2), e(3), h()]), codes, (), told)

    def test_two_bars(self):
        told = [(h(), [(1,), (2,), (3,)]), (e(1), [(1,)]), (("f/1", "+", (2,)), [()])]
        codes = [("call", "h/1", "-", (), 0), ("bar", "e/2", "+-", (0,), 1, 1), ("same", 0, 1),
                 ("bar", "f/1", "+", (0,), 2, 0), ("mark",), ONE]
        met = [e(1), e(2), e(3), ("f/1", "+", (2,)), ("f/1", "+", (3,)), h()]
        self.run_of(([(3,)], [1], met), codes, (), told)


class OpenTest(RunCase):
    MAKE = [("make", 1, "s", (0,)), ("tell", (1,))]

    def test_makes(self):
        for term in (flat(58), flat(59), tower(10), tower(11)):
            self.run_of(([(("s", term),)], [], []), self.MAKE, (term,))
        for term in (flat(60), tower(12)):
            self.run_of(Open, self.MAKE, (term,))
            # Also where nothing reads it.
            self.run_of(Open, [self.MAKE[0], ONE], (term,))
        half = ("t", flat(29), flat(29))
        self.assertEqual(slow.oracle.size(half), 59)
        self.run_of(([(half,)], [], []), [("make", 2, "t", (0, 1)), ("tell", (2,))], half[1:])
        self.run_of(Open, [("make", 2, "t", (0, 1)), ("tell", (2,))], (flat(30), flat(30)))

    def test_a_make_that_no_state_comes_to(self):
        for ahead in (("this", 0, 3), ("test", "<", 1, 0), ("call", "h/1", "-", (), 5), ("open", 0, "zz", 5, 1)):
            self.run_of(([], [], [h()] if ahead[0] == "call" else []), [ahead, *self.MAKE], (flat(60),))
        told = [(h(), [(1,), (flat(60),), (2,)])]
        codes = [("call", "h/1", "-", (), 0), ("make", 1, "s", (0,)), ("tell", (1,))]
        self.run_of(Open, codes, (), told)
        self.run_of(([(("s", 1),), (("s", 2),)], [], [h()]),
                    [codes[0], ("test", "<", ("at", 0), 9), *codes[1:]], (), told)

    def test_what_is_not_made_is_not_measured(self):
        big = flat(60)
        self.run_of(([(big, big)], [], []), [("tell", (0, 0))], (big,))
        self.run_of(([(flat(60),)], [], [("f/1", "+", (big,))]), [("call", "f/1", "+", (0,), 1), ONE], (big,),
                    [(("f/1", "+", (big,)), [()])])
        wide = ("h", big, big, big, big)
        self.run_of(([(big,)], [], []), [("open", 0, "h", 1, 4), ("tell", (3,))], (wide,))
        self.run_of(([(wide,)], [], []), [("same", 0, 1), ONE], (wide, wide))

    def test_sums(self):
        codes = [("sum", 1, ("+", ("at", 0), 1)), ("tell", (1,))]
        self.run_of(([(BIG,)], [], []), codes, (BIG - 1,))
        self.run_of(Open, codes, (BIG,))
        self.run_of(Open, [codes[0], ("this", 1, 0), NONE], (BIG,))
        codes = [("sum", 1, ("-", ("at", 0), 1)), ("tell", (1,))]
        self.run_of(([(-BIG,)], [], []), codes, (1 - BIG,))
        self.run_of(Open, codes, (-BIG,))
        self.run_of(([(BIG,)], [], []), [("sum", 1, ("//", ("*", ("at", 0), BIG), BIG)), ("tell", (1,))], (BIG,))
        self.run_of(([], [], []), [("this", 0, 1), *codes], (-BIG,))

    def test_fields(self):
        codes = [("field", ((1, ("at", 0)),), (("<", ("at", 1), 2),), 1), ("tell", (1,))]
        self.run_of(([(1,)], [], []), codes, (399,))
        self.run_of(([(1,)], [], []), codes, (400,))
        self.run_of(Open, codes, (401,))
        self.run_of(([], [], []), [("this", 0, 1), *codes], (401,))
        for ranges in (((1, 20), (0, 20)), ((1, 401),), ((("at", 0), ("+", BIG, 1)),), ((("+", BIG, 1), ("at", 0)),),
                       ((("+", BIG, 1), ("//", 1, 0)),), ((1, 20), (1, ("+", BIG, 1)))):
            self.run_of(Open, [("field", ranges, (), 1), NONE], (1,))
        self.run_of(([()] * 400, [], []), [("field", ((1, 20), (1, 20)), (), 1), NONE])
        # The first of these that is met decides.
        for ranges in (((("//", 1, 0), ("+", BIG, 1)),), ((1, ("at", 0)), (1, ("+", BIG, 1))), ((1, 500), (1, 0))):
            self.run_of(([], [], []), [("field", ranges, (), 1), NONE], ("a",))
        self.run_of(Open, [("field", ((1, 401),), (("<", ("at", 0), 1),), 1), NONE], ("a",))


class FitTest(Case):
    def fit(self, wanted, codes, many=0):
        """Which conditions are broken; none where the codes fit."""
        with self.subTest(codes=codes, many=many):
            handed = list(codes)
            self.assertEqual(slow_codes.broken(codes, many), set(wanted))
            self.assertIs(fits(codes, many), not wanted)
            self.assertEqual(codes, handed)

    def test_one_tell_at_the_end(self):
        self.fit([], [NONE])
        self.fit([1], [])
        self.fit([1], [("mark",)])
        self.fit([1], [NONE, ("mark",)])
        self.fit([1], [NONE, NONE])
        self.fit([1], [ONE, ("mark",), ONE], 1)
        self.fit([1], [("put", 0, 1)])

    def test_places_that_are_read_have_to_be_written(self):
        self.fit([], [ONE], 1)
        self.fit([2], [ONE])
        self.fit([2], [TWO], 1)
        for code, least in ((("this", 2, 1), 3), (("open", 2, "f", 8, 1), 3), (("same", 2, 0), 3), (("same", 0, 2), 3),
                            (("make", 8, "f", (0, 2)), 3), (("sum", 8, ("+", 1, ("at", 2))), 3),
                            (("test", "<", ("at", 2), 1), 3), (("test", "<", 1, ("*", 1, ("at", 2))), 3),
                            (("call", "f/1", "+", (2,), 8), 3), (("bar", "f/1", "+", (2,), 8, 0), 3),
                            (("field", ((("at", 2), 1),), (), 8), 3), (("field", ((1, 1), (1, ("at", 2))), (), 8), 3),
                            (("field", ((1, 1),), (("<", ("at", 8), ("at", 2)),), 8), 3), (("tell", (0, 2)), 3)):
            rest = [] if code[0] == "tell" else [NONE]
            self.fit([], [code, *rest], least)
            self.fit([2], [code, *rest], least - 1)
            self.fit([], [("put", 2, 5), code, *rest], least - 1)
            if rest:
                self.fit([2], [code, ("put", 2, 5), *rest], least - 1)

    def test_what_each_code_writes_may_be_read_behind_it(self):
        for code, wrote, beyond in ((("put", 4, 1), [4], 5), (("make", 4, "f", (0, 0)), [4], 5),
                                    (("sum", 4, 1), [4], 5),
                                    (("open", 0, "f", 4, 3), [4, 5, 6], 7),
                                    (("call", "e/3", "-+-", (0,), 4), [4, 5], 6),
                                    (("call", "e/1", "+", (0,), 4), [], 4),
                                    (("field", ((1, 2), (1, 2)), (), 4), [4, 5], 6),
                                    (("this", 0, 4), [], 4), (("same", 0, 0), [], 4), (("mark",), [], 4),
                                    (("test", "<", 1, 2), [], 4)):
            for place in (*wrote, beyond):
                self.fit([] if place in wrote else [2], [code, ("tell", (place,))], 1)
            self.fit([2], [code, ("tell", (3,))], 1)

    def test_a_code_does_not_read_what_it_writes(self):
        for code in (("make", 1, "f", (1,)), ("sum", 1, ("at", 1)), ("open", 1, "f", 1, 1),
                     ("call", "e/2", "+-", (1,), 1),
                     ("bar", "e/2", "+-", (1,), 1, 0), ("field", ((1, ("at", 1)),), (), 1)):
            self.fit([2], [code, NONE], 1)
        # But for a field's own places in its tests.
        self.fit([], [("field", ((1, 2), (1, 2)), (("<", ("at", 1), ("at", 2)),), 1), NONE], 1)
        self.fit([2], [("field", ((1, 2), (1, 2)), (("<", ("at", 1), ("at", 3)),), 1), NONE], 1)
        self.fit([2], [("field", ((1, 2), (("at", 1), 2)), (), 1), NONE], 1)

    def test_each_place_is_written_once_at_most(self):
        for code in (("put", 1, 1), ("make", 1, "f", (0,)), ("sum", 1, 1), ("open", 0, "f", 1, 1),
                     ("call", "e/2", "+-", (0,), 1), ("bar", "e/2", "+-", (0,), 1, 0), ("field", ((1, 2),), (), 1)):
            self.fit([], [code, NONE], 1)
            self.fit([3], [code, ("put", 1, 9), NONE], 1)
            self.fit([3], [("put", 1, 9), code, NONE], 1)
            self.fit([3], [code, code, NONE], 1)
            # No place of the ins is.
            self.fit([3], [code, NONE], 2)
        for code in (("open", 0, "f", 0, 2), ("call", "e/2", "--", (), 0), ("field", ((1, 2), (1, 2)), (), 0)):
            self.fit([3], [code, NONE], 1)

    def test_several_places_of_one_code(self):
        self.fit([], [("open", 0, "f", 1, 4), ("put", 5, 1), NONE], 1)
        self.fit([3], [("open", 0, "f", 1, 4), ("put", 4, 1), NONE], 1)
        self.fit([], [("put", 5, 1), ("open", 0, "f", 1, 4), NONE], 1)
        self.fit([3], [("put", 4, 1), ("open", 0, "f", 1, 4), NONE], 1)
        self.fit([3], [("put", 2, 1), ("call", "e/3", "---", (), 0), NONE])
        self.fit([], [("put", 3, 1), ("call", "e/3", "---", (), 0), NONE])
        self.fit([3], [("put", 2, 1), ("field", ((1, 1), (1, 1), (1, 1)), (), 0), NONE])
        self.fit([], [("put", 10 ** 30, 1), ("tell", (10 ** 30,))])

    def test_what_a_bar_wrote_is_read_within_it_alone(self):
        bar = ("bar", "e/2", "+-", (0,), 1, 2)
        within = [("open", 1, "f", 2, 2), ("same", 3, 1)]
        self.fit([], [bar, *within, NONE], 1)
        for place in (1, 2, 3):
            self.fit([2], [bar, *within, ("tell", (place,))], 1)
            self.fit([2], [bar, *within, ("this", place, 1), NONE], 1)
            self.fit([2], [bar, *within, ("bar", "k/0", "", (), 9, 1), ("this", place, 1), NONE], 1)
            self.fit([2], [bar, *within, ("sum", 9, ("at", place)), NONE], 1)
            # It is written all the same.
            self.fit([3], [bar, *within, ("put", place, 1), NONE], 1)
            self.fit([3], [("put", place, 1), bar, *within, NONE], 1)
        self.fit([], [bar, *within, ("tell", (0,))], 1)
        self.fit([2], [("bar", "e/2", "+-", (0,), 1, 1), *within, NONE], 1)
        self.fit([2], [("bar", "e/2", "+-", (0,), 1, 2), ("same", 3, 1), ("open", 1, "f", 2, 2), NONE], 1)
        # Within a bar what is written ahead of it is read.
        self.fit([], [("put", 5, 1), ("bar", "k/0", "", (), 9, 2), ("this", 5, 1), ("same", 0, 5), NONE], 1)

    def test_the_codes_behind_a_bar(self):
        for inner in (("this", 0, 1), ("open", 0, "f", 5, 1), ("same", 0, 0)):
            self.fit([], [("bar", "k/0", "", (), 9, 1), inner, NONE], 1)
            self.fit([], [("bar", "k/0", "", (), 9, 0), inner, NONE], 1)
        for inner in (("put", 5, 1), ("make", 5, "f", (0,)), ("sum", 5, 1), ("test", "<", 1, 2), ("mark",),
                      ("call", "k/0", "", (), 5), ("bar", "k/0", "", (), 5, 0), ("field", ((1, 2),), (), 5)):
            self.fit([4], [("bar", "k/0", "", (), 9, 1), inner, NONE], 1)
            self.fit([], [("bar", "k/0", "", (), 9, 0), inner, NONE], 1)
            self.fit([4], [("bar", "k/0", "", (), 9, 2), ("this", 0, 1), inner, NONE], 1)
        self.fit([4], [("bar", "k/0", "", (), 9, 1), NONE], 1)
        self.fit([4], [("bar", "k/0", "", (), 9, 3), ("this", 0, 1), ("this", 0, 1), NONE], 1)
        self.fit([4], [("bar", "k/0", "", (), 9, 4), ("this", 0, 1), ("this", 0, 1), NONE], 1)
        self.fit([4], [("bar", "k/0", "", (), 9, 10 ** 20), ("this", 0, 1), NONE], 1)
        self.fit([1, 4], [("bar", "k/0", "", (), 9, 3), ("this", 0, 1), ("this", 0, 1)], 1)

    def test_places_of_calls_and_bars(self):
        for mode, row in (("", ()), ("+", (0,)), ("-", ()), ("+-", (0,)), ("++", (0, 0)), ("-+-+", (0, 0))):
            for kind, rest in (("call", ()), ("bar", (0,))):
                self.fit([], [(kind, "e/2", mode, row, 5, *rest), NONE], 1)
                self.fit([5], [(kind, "e/2", mode, (*row, 0), 5, *rest), NONE], 1)
                if row:
                    self.fit([5], [(kind, "e/2", mode, row[1:], 5, *rest), NONE], 1)

    def test_by_chance(self):
        seen = {}
        for seed in range(3000):
            maker = CodeMaker(seed, wild=0.06)
            wanted = slow_codes.broken(maker.codes, maker.many)
            self.assertIs(fits(maker.codes, maker.many), not wanted, maker.codes)
            for condition in wanted or {0}:
                seen[condition] = seen.get(condition, 0) + 1
        self.assertEqual(sorted(seen), [0, 2, 3, 4, 5])


class ChanceTest(Case):
    def test_as_the_slow_reading_runs(self):
        seen = {}
        for seed in range(4000):
            maker = CodeMaker(seed, longest=5 + seed % 9)
            for _ in range(3):
                ins, (rows, found) = maker.ins(), maker.told()
                wanted = slow_codes.run(maker.codes, ins, rows)
                self.assertEqual(run(maker.codes, ins, list(found.items())), wanted)
                seen[min(len(wanted[0]), 3)] = True
        self.assertEqual(sorted(seen), [0, 1, 2, 3])


class HandedTest(Case):
    def test_told_lists_are_new_ones_each_time(self):
        codes = [EVERY, ("mark",), ("tell", (9,))]
        told = [(h(), [(1,), (2,)])]
        for _ in range(3):
            found = run(codes, (), told)
            self.assertEqual(found, ([(1,), (2,)], [2], [h()]))
            for part in found:
                part.clear()
        self.assertEqual((codes, told), ([EVERY, ("mark",), ("tell", (9,))], [(h(), [(1,), (2,)])]))


class LongTest(Case):
    """Long but promised inputs end in seconds."""

    def test_many_rows_and_fields_of_four_hundred_points(self):
        began = time.monotonic()
        rows = [(number,) for number in range(190)]
        codes = [EVERY, ("field", ((1, 400),), (("==", ("*", ("at", 1), ("at", 1)), ("at", 9)),), 1), ("mark",),
                 ("tell", (1,))]
        answers, marks, _ = run(codes, (), [(h(), rows)])
        self.assertEqual((answers, marks), ([(number,) for number in range(1, 14)], [13]))
        codes = [EVERY, ("call", "h/1", "-", (), 1), ("same", 1, 9), ("mark",), ("tell", (1,))]
        self.assertEqual(run(codes, (), [(h(), rows)])[1], [190])
        self.assertLess(time.monotonic() - began, 20)


if __name__ == "__main__":
    unittest.main()
