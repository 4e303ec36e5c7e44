"""[42], [43]: the walk of a call, its ways, and the calls that are refused."""

import unittest

from goalstead.errors import NoCall, Open
from goalstead.program import Program
from tests import slow
from tests.chance import programs
from tests.helpers import Case, program_of
from tests.test_walking import flat, told_rows

BIG = 10 ** 60 - 1

TEXT = """
    mode p(in, out)
    p(a, 1)
    p(X, Y) <- e(X, Y)
    p(b, 9)
    p(X, Z) <- e(X, Y), e(Y, Z), not f(Z)
    p(a, 1)
    p(X, 7) <- 1 < 2
    p(a, 3)
    mode e(in, out)
    e(own, clause)
    mode f(in)
    mode k
"""


def p(term):
    return ("p/2", "+-", (term,))


def e(term):
    return ("e/2", "+-", (term,))


def f(term):
    return ("f/1", "+", (term,))


class WalkTest(Case):
    def walk(self, wanted, call, told=(), text=None, **most):
        program = program_of(text or TEXT)
        with self.subTest(call=call, told=told, most=most):
            handed = [(other, list(rows)) for other, rows in told]
            if wanted in (Open, NoCall):
                for _ in range(2):
                    self.assert_refused(wanted, {}, program.walk, call, handed, **most)
            else:
                found = program.walk(call, handed, **most)
                self.assertEqual(found, wanted)
                self.assertEqual([type(part) for part in (found, *found)], [tuple, list, list, int])
            self.assertEqual(handed, [(other, list(rows)) for other, rows in told])

    def test_answers_clause_by_clause_each_once_at_its_first_coming(self):
        told = [(e("a"), [("c",), (7,), ("b",), (1,)]), (e("b"), [("d",), ("c",)]), (e("c"), [("e",)]), (f("d"), [()])]
        met = [e(1), e(7), e("a"), e("b"), e("c"), f("c"), f("d"), f("e")]
        answers = [(1,), ("c",), (7,), ("b",), ("e",), (3,)]
        self.walk((answers, met, 4 + 4 + 3 + 2 + 1), p("a"), told)

    def test_a_call_that_no_head_matches(self):
        self.walk(([("clause",)], [], 0), e("own"))
        self.walk(([], [], 0), e("other"))
        self.walk(([], [], 0), f(1))
        self.walk(([], [], 0), ("k/0", "", ()))

    def test_by_told_rows_alone(self):
        # The program's own rows of e stand in no told list.
        self.walk(([(7,)], [e("own")], 1), p("own"))
        self.walk(([(7,)], [e("own")], 1), p("own"), [(p("own"), [(5,)]), (e("z"), [(5,)])])
        self.walk(([(5,), (7,)], [e(5), e("own")], 3), p("own"), [(e("own"), [(5,)])])

    def test_in_each_mode(self):
        text = "mode h(in, out) \n mode h(out, in) \n mode h(out, out) \n h(1, a) \n h(2, b) \n h(1, b)"
        self.walk(([("a",), ("b",)], [], 0), ("h/2", "+-", (1,)), (), text)
        self.walk(([(2,), (1,)], [], 0), ("h/2", "-+", ("b",)), (), text)
        self.walk(([(1, "a"), (2, "b"), (1, "b")], [], 0), ("h/2", "--", ()), (), text)

    def test_words(self):
        text = "mode a \n mode b \n a <- b \n a <- not b \n a <- b, b"
        self.walk(([()], [("b/0", "", ())], 1), ("a/0", "", ()), (), text)
        self.walk(([()], [("b/0", "", ())], 3), ("a/0", "", ()), [(("b/0", "", ()), [()])], text)

    def test_ways_are_the_sum_of_all_marks(self):
        text = "mode n(in, out) \n n(X, Z) <- Y in 1 .. X, Z is Y + 1 \n n(X, 1) <- X < 3, 1 < 2 \n n(9, 9)"
        self.walk(([(2,), (3,), (1,)], [], 6), ("n/2", "+-", (2,)), (), text)
        self.walk(([(2,), (3,), (4,)], [], 6), ("n/2", "+-", (3,)), (), text)

    def test_just_most_ways_and_one_more(self):
        text = "mode n(in, out) \n n(X, Y) <- Y in 1 .. X \n n(X, 0) <- 1 < 2"
        answers = [(number,) for number in range(1, 200)] + [(0,)]
        self.walk((answers, [], 200), ("n/2", "+-", (199,)), (), text)
        self.walk((answers, [], 200), ("n/2", "+-", (199,)), (), text, most=200)
        self.walk(Open, ("n/2", "+-", (200,)), (), text)
        self.walk(Open, ("n/2", "+-", (200,)), (), text, most=200)
        self.walk(Open, ("n/2", "+-", (199,)), (), text, most=199)
        self.walk(([(1,), (0,)], [], 2), ("n/2", "+-", (1,)), (), text, most=2)
        self.walk(Open, ("n/2", "+-", (1,)), (), text, most=1)
        self.walk(([(0,)], [], 1), ("n/2", "+-", (0,)), (), text, most=1)

    def test_ways_of_all_clauses_count_together(self):
        text = "mode a(in) \n mode b \n a(1) <- b, b \n a(2) <- b \n a(X) <- not b \n a(1) <- b"
        told = [(("b/0", "", ()), [()])]
        self.walk(([()], [("b/0", "", ())], 3), ("a/1", "+", (1,)), told, text, most=3)
        self.walk(Open, ("a/1", "+", (1,)), told, text, most=2)
        self.walk(([()], [("b/0", "", ())], 1), ("a/1", "+", (2,)), told, text, most=1)

    def test_ways_that_come_to_nothing_count_too(self):
        text = "mode a \n mode e(out) \n a <- e(X), e(Y), X < Y, Y < X"
        told = [(("e/1", "-", ()), [(1,), (2,), (3,)])]
        self.walk(([], [("e/1", "-", ())], 3 + 9 + 3), ("a/0", "", ()), told, text, most=15)
        self.walk(Open, ("a/0", "", ()), told, text, most=14)

    def test_no_more_ways_have_to_be_found_than_most_and_one(self):
        text = "mode a \n mode e(out) \n a <- e(A), e(B), e(C), e(D), e(E), e(F)"
        told = [(("e/1", "-", ()), [(number,) for number in range(190)])]
        self.walk(Open, ("a/0", "", ()), told, text)

    def test_open_where_a_clauses_walk_is(self):
        text = "mode a(in, out) \n a(1, 2) \n a(X, s(X)) <- 1 < 2"
        self.walk(([(("s", flat(59)),)], [], 1), ("a/2", "+-", (flat(59),)), (), text)
        self.walk(Open, ("a/2", "+-", (flat(60),)), (), text)
        text = f"mode a(in) \n a(1) \n a(2) <- X is {BIG} + 1 \n a(3) <- X in 1 .. 401 such 1 < 0"
        self.walk(([()], [], 0), ("a/1", "+", (1,)), (), text)
        self.walk(Open, ("a/1", "+", (2,)), (), text)
        self.walk(Open, ("a/1", "+", (3,)), (), text)

    def test_told_lists_are_new_ones_each_time(self):
        program = program_of("mode a(out) \n a(1) \n a(X) <- a(X)")
        told = [(("a/1", "-", ()), [(5,)])]
        for _ in range(3):
            answers, met, ways = program.walk(("a/1", "-", ()), told)
            self.assertEqual((answers, met, ways), ([(1,), (5,)], [("a/1", "-", ())], 1))
            answers.clear()
            met.append(7)
        self.assertEqual(told, [(("a/1", "-", ()), [(5,)])])

    def test_as_the_slow_reading_walks(self):
        seen = {}
        for maker in programs(range(200, 400)):
            house = slow.House(maker.rows)
            if house.refusal is None:
                for call in maker.calls(3):
                    seen[self.compare(maker, house, call)] = True
        self.assertGreaterEqual(len(seen), 5)

    def compare(self, maker, house, call):
        """Held by a told list that has rows for most of what is met, with several bounds."""
        program, told = Program(maker.rows), []
        for _ in range(2):
            try:
                met = house.walk(call, told_rows(told))[1]
            except slow.Opened:
                break
            told += maker.told([other for other in met if other not in dict(told)])
        try:
            answers, met, ways = house.walk(call, told_rows(told))
        except slow.Opened:
            self.assert_refused(Open, {}, program.walk, call, told)
            return "open"
        for most in (200, max(ways, 1), ways + 1):
            if ways <= most:
                self.assertEqual(program.walk(call, told, most=most), (answers, met, ways))
        if ways > 1:
            self.assert_refused(Open, {}, program.walk, call, told, most=ways - 1)
        return min(len(answers), 2), len(met) > 1


# Calls that no program of TEXT has, by each of the three causes.
NO_CALLS = [
    ("zz/2", "+-", ("a",)), ("p/1", "+", ("a",)), ("p/3", "+--", ("a",)), ("p", "+-", ("a",)), ("", "", ()),
    ("p/2", "-+", ("a",)), ("p/2", "++", ("a", "b")), ("p/2", "+", ("a",)), ("p/2", "", ()), ("k/0", "-", ()),
    ("k/0", "+", ("a",)), ("f/1", "-", ()), ("lone/2", "+-", ("a",)), ("lone/2", "", ()),
    ("p/2", "+-", ()), ("p/2", "+-", ("a", "b")), ("k/0", "", ("a",)), ("f/1", "+", ()), ("f/1", "+", (1, 2)),
    ("p/2", "--", ()),
]


class NoCallTest(Case):
    def test_each_cause(self):
        program = program_of(TEXT + "\n table lone 2")
        for call in NO_CALLS:
            with self.subTest(call):
                for _ in range(2):
                    self.assert_refused(NoCall, {}, program.walk, call, [(call, [(1,)])])
                self.assert_refused(NoCall, {}, program.walk, call, [], most=1)

    def test_a_mode_that_the_relation_has(self):
        text = "mode q(in, out) \n mode q(out, out) \n q(1, 2)"
        self.assertEqual(program_of(text).walk(("q/2", "--", ()), []), ([(1, 2)], [], 0))
        self.assertEqual(program_of(text).walk(("q/2", "+-", (1,)), []), ([(2,)], [], 0))
        self.assert_refused(NoCall, {}, program_of(text).walk, ("q/2", "--", (1,)), [])
        self.assert_refused(NoCall, {}, program_of(text).walk, ("q/2", "+-", ()), [])

    def test_it_goes_ahead_of_open(self):
        program = program_of("mode a(in, in) \n a(X, Y) <- Z in 1 .. 401 \n mode b \n b <- a(1, 2)")
        self.assert_refused(Open, {}, program.walk, ("a/2", "++", (1, 2)), [])
        for call in (("a/2", "++", (1,)), ("a/2", "++", ()), ("a/2", "++", (1, 2, 3)), ("a/2", "+-", (1,))):
            self.assert_refused(NoCall, {}, program.walk, call, [])

    def test_calls_of_a_told_list_may_be_any(self):
        program = program_of("mode a(in, out) \n a(X, Y) <- a(X, Y)")
        told = [(call, [(1,)]) for call in NO_CALLS] + [(("a/2", "+-", (3,)), [(4,)])]
        self.assertEqual(program.walk(("a/2", "+-", (3,)), told), ([(4,)], [("a/2", "+-", (3,))], 1))


if __name__ == "__main__":
    unittest.main()
