"""[38] to [41], and [43] for a clause's walk: clauses walked goal by goal."""

import unittest

from goalstead.errors import NoCall, Open
from goalstead.program import Program
from goalstead.walking import walk_clause
from tests import slow
from tests.chance import programs
from tests.helpers import Case, rows_of

BIG = 10 ** 60 - 1

MODES = """
    mode e(in, out)
    mode e(out, out)
    mode f(in)
    mode g(out, in, out)
    mode k
    mode p(in, out)
"""
MANY = len(rows_of(MODES))


def told_rows(told):
    """The rows that a told list has, asked for call by call."""
    rows = dict(told)
    return lambda call: rows.get(call, [])


def tower(depth):
    """A term of that size and depth."""
    return "a" if depth == 1 else ("s", tower(depth - 1))


def flat(size):
    """A term of that size, at most four deep."""
    if size == 1:
        return 0
    many = min(4, size - 1)
    return ("h", *[flat((size - 1) // many + (k < (size - 1) % many)) for k in range(many)])


class WalkCase(Case):
    def walk(self, wanted, clause, ins=(), told=(), mode="+-", modes=MODES):
        """A clause that stands behind the modes is walked; what is wanted is told as by the slow reading, too."""
        rows = rows_of(f"{modes}\n{clause}")
        line, handed = len(rows_of(modes)), [(call, list(found)) for call, found in told]
        with self.subTest(clause=clause.strip(), ins=ins, told=told, mode=mode):
            program = Program(rows)
            if wanted is Open:
                self.assertRaises(slow.Opened, slow.House(rows).walk_clause, line, mode, ins, told_rows(told))
                self.assert_refused(Open, {}, walk_clause, program, line, mode, ins, handed)
                # What was refused may be asked again.
                self.assert_refused(Open, {}, walk_clause, program, line, mode, ins, handed)
            else:
                found = walk_clause(program, line, mode, ins, handed)
                self.assertEqual(found, wanted)
                self.assertEqual([type(part) for part in (found, *found)], [tuple, list, list, list])
                self.assertEqual(slow.House(rows).walk_clause(line, mode, ins, told_rows(told)), wanted)
            self.assertEqual(handed, [(call, list(found)) for call, found in told])


def e(*ins):
    return ("e/2", "+-" if ins else "--", ins)


F, G, K, P = [lambda *ins, title=title, mode=mode: (title, mode, ins)
              for title, mode in (("f/1", "+"), ("g/3", "-+-"), ("k/0", ""), ("p/2", "+-"))]


class HeadTest(WalkCase):
    def test_facts(self):
        self.walk(([("b",)], [], []), "p(a, b)", ("a",))
        self.walk(([], [], []), "p(a, b)", ("b",))
        self.walk(([("a",)], [], []), "p(X, X)", ("a",))
        self.walk(([(("f", 3, "a"),)], [], []), "p(s(X), f(X, a))", (("s", 3),))
        self.walk(([], [], []), "p(s(X), f(X, a))", (("s", 3, 4),))
        self.walk(([()], [], []), "k", (), mode="")
        self.walk(([()], [], []), "f(7)", (7,), mode="+")
        self.walk(([], [], []), "f(7)", (-7,), mode="+")

    def test_in_each_mode(self):
        self.walk(([("b",)], [], []), "e(a, b)", ("a",))
        self.walk(([("a", "b")], [], []), "e(a, b)", (), mode="--")
        self.walk(([("a", 2)], [], []), "g(a, 1, 2)", (1,), mode="-+-")
        self.walk(([(1, 2)], [], []), "g(X, s(X, Y), Y)", (("s", 1, 2),), mode="-+-")

    def test_one_unknown_at_several_places(self):
        modes = MODES + "mode h(in, in, out)"
        self.walk(([(1,)], [], []), "h(X, X, X)", (1, 1), mode="++-", modes=modes)
        self.walk(([], [], []), "h(X, X, X)", (1, 2), mode="++-", modes=modes)
        self.walk(([(2,)], [], []), "h(s(X), X, X)", (("s", 2), 2), mode="++-", modes=modes)

    def test_a_head_that_does_not_match_has_no_ways_and_meets_nothing(self):
        clause = "p(a, Y) <- e(a, Y), f(Y), 1 < 2"
        told = [(e("a"), [("b",)]), (F("b"), [()])]
        self.walk(([], [0, 0, 0], []), clause, ("b",), told)
        self.walk(([("b",)], [1, 1, 1], [e("a"), F("b")]), clause, ("a",), told)


class RelationTest(WalkCase):
    def test_rows_in_their_order(self):
        told = [(e("a"), [("c",), ("b",), (3,), (("s", 1),)])]
        self.walk(([("c",), ("b",), (3,), (("s", 1),)], [4], [e("a")]), "p(X, Y) <- e(X, Y)", ("a",), told)

    def test_the_first_goals_rows_are_the_slowest(self):
        told = [(e(1), [(5,), (4,)]), (e(5), [(9,), (7,)]), (e(4), [(8,), (6,)])]
        self.walk(([(9,), (7,), (8,), (6,)], [2, 4], [e(1), e(4), e(5)]), "p(X, Z) <- e(X, Y), e(Y, Z)", (1,), told)
        answers = [("b",), ("a",), ("b",), ("a",)]
        self.walk((answers, [2, 4], [e("c"), e("d"), e()]), "p(X, Z) <- e(U, V), e(V, Z)", (0,),
                  [(e(), [(1, "d"), (2, "c")]), (e("c"), [("b",), ("a",)]), (e("d"), [("b",), ("a",)])])

    def test_answers_as_often_as_they_come(self):
        told = [(e("a"), [(1,), (2,), (3,)])]
        self.walk(([("x",), ("x",), ("x",)], [3], [e("a")]), "p(X, x) <- e(X, Y)", ("a",), told)

    def test_rows_that_do_not_match(self):
        told = [(e("a"), [(1,), (("s", 1),), (("s", "a"),), (("s", 1, 2),), ("s",)])]
        self.walk(([(1,), ("a",)], [2], [e("a")]), "p(X, Y) <- e(X, s(Y))", ("a",), told)
        self.walk(([("a",)], [1], [e("a")]), "p(X, X) <- e(X, s(X))", ("a",), told)
        self.walk(([("a",)], [1], [e("a")]), "p(X, X) <- e(X, 1)", ("a",), told)
        self.walk(([], [0], [e("a")]), "p(X, X) <- e(X, 2)", ("a",), told)

    def test_an_unknown_that_stands_twice_at_the_told_places(self):
        told = [(G(1), [(1, 2), (3, 3), (("s", 4), 4), (2, 1)])]
        self.walk(([(3,)], [1], [G(1)]), "p(X, Y) <- g(Y, X, Y)", (1,), told)
        self.walk(([(4,)], [1], [G(1)]), "p(X, Y) <- g(s(Y), X, Y)", (1,), told)
        self.walk(([(2,)], [1], [G(1)]), "p(X, Y) <- g(X, X, Y)", (1,), told)

    def test_words_and_goals_without_places(self):
        self.walk(([("a",)], [1], [K()]), "p(X, X) <- k", ("a",), [(K(), [()])])
        self.walk(([], [0], [K()]), "p(X, X) <- k", ("a",), [(K(), [])])
        self.walk(([("a",)], [1], [F("a")]), "p(X, X) <- f(X)", ("a",), [(F("a"), [()])])

    def test_terms_that_are_put_together(self):
        told = [(e(("s", "a", 3)), [(1,)])]
        self.walk(([(1,)], [1], [e(("s", "a", 3))]), "p(X, Y) <- e(s(X, 3), Y)", ("a",), told)
        self.walk(([("b",)], [1], [e(7)]), "p(X, b) <- e(7, Y)", (7,), [(e(7), [(1,)])])

    def test_the_mode_of_the_plan(self):
        told = [(e("b"), [(1,)]), (e(), [("b", 2), ("c", 3)])]
        self.walk(([(2,), (3,)], [2], [e()]), "p(X, Y) <- e(U, Y)", ("a",), told)
        self.walk(([(1,)], [1], [e("b")]), "p(X, Y) <- e(X, Y)", ("b",), told)

    def test_calls_that_the_told_list_does_not_have(self):
        self.walk(([], [0], [e("a")]), "p(X, Y) <- e(X, Y)", ("a",))
        self.walk(([], [0], [e("a")]), "p(X, Y) <- e(X, Y)", ("a",), [(e("b"), [(1,)]), (e(), [("a", 1)])])
        self.walk(([], [0], [e(1)]), "p(X, Y) <- e(X, Y)", (1,), [(e(-1), [(1,)]), (e("a"), [(1,)]), (F(1), [()])])

    def test_calls_that_the_program_does_not_have(self):
        told = [(("zz/1", "+", (1,)), [()]), (("e/2", "++", ("a", "b")), [()]), (("e/3", "+--", ("a",)), [(1, 2)])]
        self.walk(([], [0], [e("a")]), "p(X, Y) <- e(X, Y)", ("a",), told)
        self.walk(([(4,)], [1], [e("a")]), "p(X, Y) <- e(X, Y)", ("a",), told + [(e("a"), [(4,)])])


class MetTest(WalkCase):
    def test_each_call_once_in_the_order_of_calls(self):
        told = [(e("a"), [("c",), (2,), ("b",), (1,), (("s", 1),)])]
        wanted = [e("a"), F(1), F(2), F("b"), F("c"), F(("s", 1))]
        self.walk(([], [5, 0], wanted), "p(X, Y) <- e(X, Y), f(Y)", ("a",), told)
        told = [(e("a"), [(1,), (2,)]), (G("a"), [(1, 1), (2, 2)]), (F("a"), [()])]
        clause = "p(X, Y) <- g(Y, X, Z), f(X), e(X, U), e(X, V), not f(X), k"
        self.walk(([], [2, 2, 4, 8, 0, 0], [e("a"), F("a"), G("a")]), clause, ("a",), told)

    def test_of_nots_too(self):
        told = [(e("a"), [(2,), (1,)])]
        self.walk(([(2,), (1,)], [2, 2], [e("a"), F(1), F(2)]), "p(X, Y) <- e(X, Y), not f(Y)", ("a",), told)

    def test_only_those_to_which_a_way_comes(self):
        self.walk(([], [0, 0], [e("a")]), "p(X, Y) <- e(X, Y), f(Y)", ("a",))
        self.walk(([], [0, 0, 0], []), "p(X, X) <- 1 < 0, e(X, Y), not f(X)", ("a",))
        told = [(e("a"), [(1,), (2,), (3,)]), (F(2), [()])]
        self.walk(([(2,)], [3, 1, 1], [e("a"), F(1), F(2), F(3), K()]),
                  "p(X, Y) <- e(X, Y), f(Y), not k", ("a",), told)

    def test_modes_of_one_relation(self):
        told = [(e(), [("a", "b")])]
        self.walk(([], [1, 0], [e("a"), e()]), "p(X, Y) <- e(Z, V), e(X, Y)", ("a",), told)


class NotTest(WalkCase):
    def test_a_not(self):
        self.walk(([("a",)], [1], [F("a")]), "p(X, X) <- not f(X)", ("a",))
        self.walk(([("a",)], [1], [F("a")]), "p(X, X) <- not f(X)", ("a",), [(F("a"), []), (F("b"), [()])])
        self.walk(([], [0], [F("a")]), "p(X, X) <- not f(X)", ("a",), [(F("a"), [()])])
        self.walk(([], [0], [K()]), "p(X, X) <- not k", ("a",), [(K(), [()])])
        self.walk(([("a",)], [1], [K()]), "p(X, X) <- not k", ("a",))

    def test_no_row_may_match(self):
        told = [(e("a"), [(1,), (2,), (("s", 3),)])]
        self.walk(([], [0], [e("a")]), "p(X, X) <- not e(X, 2)", ("a",), told)
        self.walk(([("a",)], [1], [e("a")]), "p(X, X) <- not e(X, 3)", ("a",), told)
        self.walk(([("a",)], [1], [e("a")]), "p(X, X) <- not e(X, X)", ("a",), told)
        self.walk(([], [0], [e("a")]), "p(X, X) <- not e(X, s(Y))", ("a",), told)
        self.walk(([("a",)], [1], [e("a")]), "p(X, X) <- not e(X, s(Y, Z))", ("a",), told)

    def test_its_own_unknowns(self):
        self.walk(([], [0], [e("a")]), "p(X, X) <- not e(X, Own)", ("a",), [(e("a"), [(1,)])])
        self.walk(([("a",)], [1], [e("a")]), "p(X, X) <- not e(X, Own)", ("a",), [(e("a"), [])])
        # An own unknown takes one term: both places have to hold it.
        told = [(G(1), [(1, 2), (2, 1)])]
        self.walk(([(1,)], [1], [G(1)]), "p(X, X) <- not g(Own, X, Own)", (1,), told)
        self.walk(([], [0], [G(1)]), "p(X, X) <- not g(Own, X, Own)", (1,), [(G(1), [(1, 2), (2, 2)])])
        self.walk(([], [0], [G(1)]), "p(X, X) <- not g(Own, X, Other)", (1,), told)
        self.walk(([], [0], [G(1)]), "p(X, X) <- not g(X, X, Other)", (1,), told)

    def test_behind_others(self):
        told = [(e("a"), [(1,), (2,), (3,)]), (F(2), [()])]
        self.walk(([(1,), (3,)], [3, 2], [e("a"), F(1), F(2), F(3)]), "p(X, Y) <- e(X, Y), not f(Y)", ("a",), told)
        clause = "p(X, Y) <- e(X, Y), not f(Y), Y < 3"
        self.walk(([(1,)], [3, 2, 1], [e("a"), F(1), F(2), F(3)]), clause, ("a",), told)


class LikenessTest(WalkCase):
    def test_known_on_the_left(self):
        self.walk(([(("s", 1),)], [1], []), "p(X, Y) <- s(X) = Y", (1,))
        self.walk(([(1,)], [1], []), "p(X, Y) <- X = s(Y)", (("s", 1),))
        self.walk(([], [0], []), "p(X, Y) <- X = s(Y)", (("t", 1),))
        self.walk(([(2,)], [1], []), "p(X, Y) <- X = f(1, Y, Y)", (("f", 1, 2, 2),))
        self.walk(([], [0], []), "p(X, Y) <- X = f(1, Y, Y)", (("f", 1, 2, 3),))

    def test_known_on_the_right(self):
        self.walk(([(("s", 1),)], [1], []), "p(X, Y) <- Y = s(X)", (1,))
        self.walk(([(1,)], [1], []), "p(X, Y) <- s(Y) = X", (("s", 1),))
        self.walk(([], [0], []), "p(X, Y) <- s(Y) = X", (("s", 1, 1),))
        self.walk(([(("f", 1, 2),)], [1], []), "p(X, f(Y, Z)) <- f(Y, Z, X) = f(1, 2, X)", ("a",))

    def test_known_on_both_sides(self):
        self.walk(([(1,)], [1], []), "p(X, X) <- X = 1", (1,))
        self.walk(([], [0], []), "p(X, X) <- X = 1", (2,))
        self.walk(([(1,)], [1], []), "p(X, X) <- f(X, X) = f(1, X)", (1,))
        self.walk(([], [0], []), "p(X, X) <- f(X, X) = f(1, X)", (("s", 1),))
        self.walk(([("a",)], [1], []), "p(X, X) <- 3 = 3", ("a",))
        self.walk(([], [0], []), "p(X, X) <- a = 3", ("a",))

    def test_sums_are_patterns_there(self):
        self.walk(([(("+", 1, 2),)], [1], []), "p(X, Y) <- Y = X + 2", (1,))
        self.walk(([(1,)], [1], []), "p(X, Y) <- X = Y + 2", (("+", 1, 2),))
        self.walk(([], [0], []), "p(X, Y) <- X = Y + 2", (3,))

    def test_behind_others(self):
        told = [(e("a"), [(1,), (("s", 2),), (("s", 1),)])]
        clause = "p(X, Z) <- e(X, Y), Y = s(Z), Z =/= 2"
        self.walk(([(1,)], [3, 2, 1], [e("a")]), clause, ("a",), told)


class ReckoningTest(WalkCase):
    def test_a_reckoning(self):
        self.walk(([(7,)], [1], []), "p(X, Y) <- Y is X * 2 + 1", (3,))
        self.walk(([(-4,)], [1], []), "p(X, Y) <- Y is X // 2", (-7,))
        self.walk(([(1,)], [1], []), "p(X, Y) <- Y is X mod 2", (-7,))
        self.walk(([(3,)], [1], []), "p(X, X) <- X is 3", (3,))
        self.walk(([], [0], []), "p(X, X) <- X is 3", (4,))

    def test_the_left_side_is_a_pattern(self):
        self.walk(([(3,)], [1], []), "p(X, X) <- 4 is X + 1", (3,))
        self.walk(([], [0], []), "p(X, X) <- 5 is X + 1", (3,))
        self.walk(([], [0], []), "p(X, Y) <- s(Y) is X + 1", (3,))
        self.walk(([], [0], []), "p(X, X) <- a is X + 1", (3,))

    def test_without_a_worth(self):
        for clause in ("p(X, Y) <- Y is X + 1", "p(X, Y) <- Y is X", "p(X, Y) <- Y is 0 * X"):
            for term in ("a", ("s", 1), ("+", 1, 1)):
                self.walk(([], [0], []), clause, (term,))
        self.walk(([], [0], []), "p(X, Y) <- Y is 1 // X", (0,))
        self.walk(([], [0], []), "p(X, Y) <- Y is 0 * (1 mod X)", (0,))

    def test_behind_others(self):
        told = [(e(1), [(5,), ("a",), (0,), (2,)])]
        self.walk(([(2,), (5,)], [4, 2], [e(1)]), "p(X, Z) <- e(X, Y), Z is 10 // Y", (1,), told)


class TestTest(WalkCase):
    def test_each_sign(self):
        for sign, wanted in (("<", [True, False, False]), ("=<", [True, True, False]),
                             ("==", [False, True, False]), ("=/=", [True, False, True])):
            for ins, each in zip((2, 3, 4), wanted):
                self.walk(([(ins,)] if each else [], [int(each)], []), f"p(X, X) <- X {sign} 3", (ins,))
            for term in ("a", ("s", 3), ("at", 0)):
                self.walk(([], [0], []), f"p(X, X) <- X {sign} 3", (term,))
                self.walk(([], [0], []), f"p(X, X) <- 3 {sign} X", (term,))
            self.walk(([], [0], []), f"p(X, X) <- X // 0 {sign} X", (1,))

    def test_sums_on_both_sides(self):
        self.walk(([(3,)], [1], []), "p(X, X) <- X * X == X + 6", (3,))
        self.walk(([], [0], []), "p(X, X) <- X * X == X + 6", (4,))

    def test_figures_have_no_bound_there(self):
        self.walk(([(BIG,)], [1], []), "p(X, X) <- X * X < X * X + 1", (BIG,))

    def test_behind_others(self):
        told = [(e(1), [(5,), ("a",), (0,), (2,)])]
        self.walk(([(5,), (2,)], [4, 2], [e(1)]), "p(X, Y) <- e(X, Y), X < Y", (1,), told)


class FieldTest(WalkCase):
    def test_points_in_rising_order(self):
        self.walk(([(1,), (2,), (3,)], [3], []), "p(X, Y) <- Y in 1 .. X", (3,))
        self.walk(([(1,), (2,), (3,)], [3], []), "p(X, Y) <- Y in 1 .. X such Y =/= 0", (3,))
        wanted = [(("f", 1, 3),), (("f", 2, 2),), (("f", 3, 1),)]
        clause = "p(X, f(A, B)) <- A in 1 .. X and B in 1 .. X such A + B == X + 1"
        self.walk((wanted, [3], []), clause, (3,))

    def test_no_way(self):
        self.walk(([], [0], []), "p(X, Y) <- Y in 1 .. X", (0,))
        self.walk(([], [0], []), "p(X, Y) <- Y in 1 .. X", ("a",))
        self.walk(([], [0], []), "p(X, Y) <- Y in 1 .. 3 such Y < X", ("a",))
        self.walk(([], [0], []), "p(X, Y) <- Y in 1 .. 3 such Y < X", (1,))

    def test_ranges_unknowns_that_are_known_already(self):
        self.walk(([(2,)], [1], []), "p(X, X) <- X in 1 .. 3", (2,))
        self.walk(([], [0], []), "p(X, X) <- X in 1 .. 3", (4,))
        self.walk(([], [0], []), "p(X, X) <- X in 1 .. 3", ("a",))
        self.walk(([(3,), (4,)], [2], []), "p(X, Y) <- X in 1 .. 3 and Y in 1 .. 4 such X < Y", (2,))
        # The tests are held against the point, whatever the unknown's term is.
        self.walk(([], [0], []), "p(X, Y) <- X in 1 .. 3 and Y in 1 .. 3 such X < Y", ("a",))

    def test_behind_others(self):
        told = [(e(1), [(2,), ("a",), (0,), (1,)])]
        self.walk(([(1,), (2,), (1,)], [4, 3], [e(1)]), "p(X, Z) <- e(X, Y), Z in 1 .. Y", (1,), told)
        clause = "p(X, f(Y, Z)) <- Y in 1 .. 2, Z in Y .. 2"
        self.walk(([(("f", 1, 1),), (("f", 1, 2),), (("f", 2, 2),)], [2, 3], []), clause, (1,))


class MarksTest(WalkCase):
    def test_one_number_for_each_goal(self):
        told = [(e(1), [(1,), (2,), (3,)]), (F(2), [()]), (F(3), [()])]
        clause = "p(X, Z) <- e(X, Y), f(Y), Z in 1 .. Y, Z < 3, not k, U = Z"
        met = [e(1), F(1), F(2), F(3), K()]
        self.walk(([(1,), (2,), (1,), (2,)], [3, 2, 5, 4, 4, 4], met), clause, (1,), told)

    def test_nought_behind_a_goal_that_lets_nothing_by(self):
        told = [(e(1), [(1,)])]
        self.walk(([], [0, 0, 0], []), "p(X, Y) <- X < 1, e(X, Y), e(Y, Z)", (1,), told)
        self.walk(([], [1, 0, 0], [e(1)]), "p(X, Y) <- e(X, Y), Y < 1, e(Y, Z)", (1,), told)
        self.walk(([], [1, 1, 0], [e(1)]), "p(X, Y) <- e(X, Y), e(Y, Z), Z < 1", (1,), told)


class OpenTest(WalkCase):
    """What is put together, reckoned or resolved, at the bound, one below and one above."""

    # Terms to which one more name is put: what comes of that is let by, but of the last ones.
    LET_BY = [flat(58), flat(59), tower(10), tower(11)]
    REFUSED = [flat(60), tower(12)]

    def bound(self, clause, wanted, told=lambda term: []):
        """A clause that puts s(..) round its head's one in."""
        for term in self.LET_BY:
            self.walk(wanted(term), clause, (term,), told(term))
        for term in self.REFUSED:
            self.walk(Open, clause, (term,), told(term))

    def test_the_terms_are_what_they_are_meant_to_be(self):
        measures = [(slow.oracle.size(term), slow.oracle.depth(term)) for term in self.LET_BY + self.REFUSED]
        self.assertEqual(measures, [(58, 4), (59, 4), (10, 10), (11, 11), (60, 4), (12, 12)])

    def test_an_in_of_a_relation_goal(self):
        self.bound("p(X, Y) <- e(s(X), Y)", lambda term: ([], [0], [e(("s", term))]))
        self.bound("p(X, Y) <- e(s(X), Y)", lambda term: ([(1,)], [1], [e(("s", term))]),
                   lambda term: [(e(("s", term)), [(1,)])])

    def test_an_in_of_a_not(self):
        self.bound("p(X, X) <- not f(s(X))", lambda term: ([(term,)], [1], [F(("s", term))]))
        self.bound("p(X, X) <- not e(s(X), Own)", lambda term: ([(term,)], [1], [e(("s", term))]))

    def test_a_term_of_an_answers_row(self):
        self.bound("p(X, s(X))", lambda term: ([(("s", term),)], [], []))
        self.bound("p(X, s(X)) <- 1 < 2", lambda term: ([(("s", term),)], [1], []))

    def test_each_term_of_a_row_is_measured_by_itself(self):
        modes = MODES + "mode w(in, out, out, out)"
        for clause in ("w(X, s(X), 1, 2)", "w(X, 1, s(X), 2)", "w(X, 1, 2, s(X))"):
            for term in self.REFUSED:
                self.walk(Open, clause, (term,), mode="+---", modes=modes)
        for term in self.LET_BY:
            row = (("s", term), ("s", term), term)
            self.walk(([row], [], []), "w(X, s(X), s(X), X)", (term,), mode="+---", modes=modes)

    def test_each_in_is_measured_by_itself(self):
        modes = MODES + "mode w(in, in, in, in)"
        for term in self.LET_BY:
            ins = (("s", term), ("s", term), term, term)
            self.walk(([(1,)], [1], [("w/4", "++++", ins)]), "p(X, 1) <- not w(s(X), s(X), X, X)", (term,), modes=modes)
        for clause in ("p(X, 1) <- w(1, 1, 1, s(X))", "p(X, 1) <- not w(1, 1, s(X), 1)"):
            self.walk(Open, clause, (flat(60),), modes=modes)

    def test_a_known_side_of_a_likeness(self):
        self.bound("p(X, 1) <- s(X) = Y", lambda term: ([(1,)], [1], []))
        self.bound("p(X, 1) <- Y = s(X)", lambda term: ([(1,)], [1], []))
        self.bound("p(X, 1) <- s(X) = 3", lambda term: ([], [0], []))
        self.bound("p(X, 1) <- s(X) = s(X)", lambda term: ([(1,)], [1], []))

    def test_what_is_matched_only_is_never_measured(self):
        big = flat(60)
        self.walk(([], [0], []), "p(X, 1) <- X = f(X, X, X)", (big,))
        self.walk(([], [0], []), "p(X, 1) <- f(X, X, X) is 3", (big,))
        self.walk(([], [0], [e(1)]), "p(X, 1) <- e(1, f(X, X, X))", (big,), [(e(1), [(2,), (big,)])])
        self.walk(([(1,)], [1], [e(1)]), "p(X, 1) <- not e(1, f(X, X, X))", (big,), [(e(1), [(2,), (big,)])])
        self.walk(([], [0], []), "p(X, 1) <- X in 1 .. 3", (big,))
        wide = ("h", flat(59), flat(59), flat(59), flat(59))
        self.walk(([(flat(59),)], [1], [e(1)]), "p(X, Y) <- e(X, h(Y, Y, Y, Z))", (1,), [(e(1), [(wide,)])])
        self.walk(([(1,)], [1], [e(1)]), "p(X, 1) <- e(X, Y)", (1,), [(e(1), [(wide,)])])
        self.walk(Open, "p(X, Y) <- e(X, Y)", (1,), [(e(1), [(wide,)])])
        self.walk(([("h",)], [], []), "p(h(A, B, C, D), h)", (wide,))

    def test_an_unknown_alone_is_put_together_too(self):
        wide = ("s", flat(60))
        for clause in ("p(X, Y) <- e(X, Y)", "p(X, 1) <- e(X, Y), f(Y)", "p(X, 1) <- e(X, Y), Y = Z",
                       "p(X, 1) <- e(X, Y), not f(Y)"):
            self.walk(Open, clause, (1,), [(e(1), [(wide,)])])

    def test_figures_of_a_reckoning(self):
        self.walk(([(BIG,)], [1], []), "p(X, Y) <- Y is X", (BIG,))
        self.walk(([(BIG - 1,)], [1], []), "p(X, Y) <- Y is X - 1", (BIG,))
        self.walk(Open, "p(X, Y) <- Y is X + 1", (BIG,))
        self.walk(([(-BIG,)], [1], []), "p(X, Y) <- Y is 0 - X", (BIG,))
        self.walk(Open, "p(X, Y) <- Y is X - 1", (-BIG,))
        self.walk(([(BIG,)], [1], []), "p(X, Y) <- Y is X * X // X", (BIG,))
        # Whatever its left side is.
        self.walk(Open, "p(X, X) <- a is X + 1", (BIG,))
        self.walk(Open, "p(X, X) <- X is X + 1", (BIG,))
        self.walk(Open, "p(X, 1) <- s(Y) is X * X", (BIG,))

    def test_fields(self):
        self.walk(([(1,)], [400, 1], []), "p(X, Y) <- Y in 1 .. X, Y < 2", (400,))
        self.walk(([(1,)], [399, 1], []), "p(X, Y) <- Y in 1 .. X, Y < 2", (399,))
        self.walk(Open, "p(X, Y) <- Y in 1 .. X, Y < 2", (401,))
        self.walk(Open, "p(X, Y) <- Y in 1 .. X such Y < 1", (401,))
        self.walk(Open, "p(X, Y) <- Y in 1 .. 20 and Z in 0 .. X", (20,))
        self.walk(Open, "p(X, Y) <- Y in 1 .. X + 1", (BIG,))
        self.walk(([], [0], []), "p(X, Y) <- Y in X + 1 .. 1 // 0", (1,))
        self.walk(Open, "p(X, Y) <- Y in X + 1 .. 1 // 0", (BIG,))
        # Also where its unknown is known already.
        self.walk(Open, "p(X, X) <- X in 1 .. 401", (3,))

    def test_behind_a_goal_without_rows_nothing_is_refused(self):
        goals = ["e(s(X), Y)", "not f(s(X))", "s(X) = Y", "Y in 1 .. 401", f"Y is {BIG} + 1", f"Y in 1 .. {BIG} + 1"]
        for goal in goals:
            for ahead, met in (("1 < 0", []), ("e(X, Z)", [e(flat(60))]), ("X = 3", []), ("not k", [K()])):
                told = [(K(), [()])]
                self.walk(([], [0, 0], met), f"p(X, 1) <- {ahead}, {goal}", (flat(60),), told)
                self.walk(Open, f"p(X, 1) <- {goal}, {ahead}", (flat(60),), told)
        self.walk(([], [0], []), "p(X, s(X)) <- X = 3", (flat(60),))
        self.walk(([], [], []), "p(3, s(a))", (flat(60),))

    def test_one_way_of_several_is_enough(self):
        told = [(e(1), [(1,), (2,), (flat(60),), (3,)])]
        self.walk(Open, "p(X, 1) <- e(X, Y), f(s(Y))", (1,), told)
        self.walk(Open, "p(X, s(Y)) <- e(X, Y)", (1,), told)
        self.walk(([(("s", 3),)], [4, 1], [e(1)]), "p(X, s(Y)) <- e(X, Y), 2 < Y", (1,), told)


class NoCallTest(WalkCase):
    ROWS = [
        ("mode", "p", "+-"),
        ("clause", ("p", 3, 4), ()),
        ("blank",),
        ("mode", "p", "--"),
        ("table", "q", 1),
        ("clause", ("p", 1, 2), ()),
        ("op", 5, "left", "&"),
        ("mode", "q", "+"),
        ("clause", ("q", "X"), (("is", "X", BIG),)),
        ("mode", "r", ""),
    ]

    def refused(self, line, mode, ins):
        with self.subTest(line=line, mode=mode, ins=ins):
            program = Program(self.ROWS)
            for _ in range(2):
                self.assert_refused(NoCall, {}, walk_clause, program, line, mode, ins, [])

    def test_clauses_that_there_are(self):
        program = Program(self.ROWS)
        self.assertEqual(walk_clause(program, 1, "+-", (3,), []), ([(4,)], [], []))
        self.assertEqual(walk_clause(program, 5, "--", (), []), ([(1, 2)], [], []))
        self.assertEqual(walk_clause(program, 8, "+", (BIG,), []), ([()], [1], []))

    def test_lines_that_are_no_clauses(self):
        for line in (0, 2, 3, 4, 6, 7, 9, 10, 60, -1, -4, -8, -9, BIG, -BIG):
            self.refused(line, "+-", (3,))
            self.refused(line, "+", (3,))

    def test_modes_that_are_none_of_its_heads_relations(self):
        for mode in ("", "+", "-", "-+", "++", "+--", "+-+"):
            self.refused(1, mode, (3,) * mode.count("+"))
        self.refused(8, "-", ())
        self.refused(8, "", ())

    def test_another_number_of_ins(self):
        for ins in ((), (3, 4), (3, 4, 5)):
            self.refused(1, "+-", ins)
        self.refused(1, "--", (3,))
        self.refused(8, "+", ())

    def test_it_goes_ahead_of_open(self):
        rows = rows_of(MODES + "p(X, s(X)) <- X in 1 .. 401")
        line = len(rows) - 1
        program = Program(rows)
        self.assert_refused(Open, {}, walk_clause, program, line, "+-", (flat(60),), [])
        self.assert_refused(NoCall, {}, walk_clause, program, line, "+-", (flat(60), 1), [])
        self.assert_refused(NoCall, {}, walk_clause, program, line, "--", (), [])
        self.assert_refused(NoCall, {}, walk_clause, program, line + 1, "+-", (flat(60),), [])


class ChanceTest(Case):
    def test_as_the_slow_reading_walks(self):
        """Each clause of some programs, by told lists that have rows for most of what it meets."""
        seen = {}
        for maker in programs(range(200)):
            house = slow.House(maker.rows)
            if house.refusal is None:
                for title, mode, ins in maker.calls(3):
                    for line in house.lines(title):
                        seen[self.compare(maker, house, line, mode, ins)] = True
        self.assertEqual(len(seen), 6)

    def compare(self, maker, house, line, mode, ins):
        program, told = Program(maker.rows), []
        for _ in house.clauses[line][1]:
            try:
                met = house.walk_clause(line, mode, ins, told_rows(told))[2]
            except slow.Opened:
                break
            told += maker.told([call for call in met if call not in dict(told)])
        kept = [(call, list(rows)) for call, rows in told]
        try:
            wanted = house.walk_clause(line, mode, ins, told_rows(told))
        except slow.Opened:
            self.assert_refused(Open, {}, walk_clause, program, line, mode, ins, told)
            return "open"
        found = walk_clause(program, line, mode, ins, told)
        self.assertEqual(found, wanted)
        self.assertEqual(told, kept)
        return min(len(found[0]), 2), len(found[2]) > 1


class HandedTest(Case):
    def test_told_lists_are_new_ones_each_time(self):
        program = Program(rows_of(MODES + "p(X, Z) <- e(X, Y), e(Y, Z)"))
        told = [(e(1), [(2,), (3,)]), (e(2), [(4,)]), (e(3), [(5,)])]
        wanted = ([(4,), (5,)], [2, 2], [e(1), e(2), e(3)])
        for _ in range(3):
            found = walk_clause(program, MANY, "+-", (1,), told)
            self.assertEqual(found, wanted)
            for part in found:
                part.clear()
        self.assertEqual(told, [(e(1), [(2,), (3,)]), (e(2), [(4,)]), (e(3), [(5,)])])

    def test_a_told_list_that_is_changed_later_tells_something_else(self):
        program = Program(rows_of(MODES + "p(X, Y) <- e(X, Y)"))
        told = [(e(1), [(2,)])]
        self.assertEqual(walk_clause(program, MANY, "+-", (1,), told)[0], [(2,)])
        told[0][1].append((3,))
        self.assertEqual(walk_clause(program, MANY, "+-", (1,), told)[0], [(2,), (3,)])
        told.clear()
        self.assertEqual(walk_clause(program, MANY, "+-", (1,), told)[0], [])


if __name__ == "__main__":
    unittest.main()
