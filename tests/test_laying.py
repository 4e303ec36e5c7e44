"""[60]: codes laid of clauses fit, have a mark for each goal, and run to what the walk of the clause tells."""

import time
import unittest

from goalstead.codes import fits, run
from goalstead.errors import NoCall, Open
from goalstead.laying import laid
from goalstead.program import Program
from goalstead.walking import walk_clause
from tests import slow, slow_codes, test_walking
from tests.chance import programs
from tests.helpers import Case, rows_of
from tests.test_walking import BIG, F, G, K, MODES, e, flat, told_rows, tower

LINE = len(rows_of(MODES))


def outcome(function, *places):
    try:
        return function(*places)
    except (Open, slow.Opened):
        return "Open"


class LayCase(Case):
    def laid_codes(self, program, line, mode):
        """Codes that are looked at: kinds of values, whether they fit, their marks."""
        codes = laid(program, line, mode)
        many, goals = mode.count("+"), program.clause(line)[1]
        self.assertEqual({type(code) for code in codes} | {type(codes)}, {tuple, list})
        self.assertEqual(slow_codes.broken(codes, many), set())
        self.assertIs(fits(codes, many), True)
        self.assertEqual([code[0] for code in codes].count("mark"), len(goals))
        self.assertEqual(laid(program, line, mode), codes)
        return codes

    def lay(self, clause, *cases, mode="+-", modes=MODES):
        """A clause behind the modes, in a mode: what its codes run to is what its walk tells; cases are (ins, told)."""
        rows = rows_of(f"{modes}\n{clause}")
        line, program, house = len(rows) - 1, Program(rows), slow.House(rows)
        codes = self.laid_codes(program, line, mode)
        found = []
        for ins, *told in cases:
            told = told[0] if told else []
            with self.subTest(clause=clause, ins=ins, told=told, codes=codes):
                wanted = outcome(walk_clause, program, line, mode, ins, told)
                self.assertEqual(outcome(house.walk_clause, line, mode, ins, told_rows(told)), wanted)
                self.assertEqual(outcome(run, codes, ins, told), wanted)
                self.assertEqual(outcome(slow_codes.run, codes, ins, told_rows(told)), wanted)
                found.append("Open" if wanted == "Open" else len(wanted[0]))
        return found

    def ways(self, wanted, clause, *cases, **names):
        """The numbers of answers, or "Open", that the cases come to."""
        self.assertEqual(self.lay(clause, *cases, **names), wanted)


class HeadTest(LayCase):
    def test_facts(self):
        self.ways([1, 0], "p(a, b)", (("a",),), (("b",),))
        self.ways([1, 1], "p(X, s(X, 3))", (("a",),), ((("s", 1),),))
        self.ways([1, 0, 0], "p(s(X), f(X, a))", ((("s", 3),),), ((("s", 3, 4),),), (("s",),))
        self.ways([1], "k", ((),), mode="")
        self.ways([1, 0], "f(7)", ((7,),), ((-7,),), mode="+")
        self.ways([1], "e(a, b)", ((),), mode="--")
        self.ways([1], "e(s(1), s(1))", ((),), mode="--")

    def test_unknowns_that_come_again(self):
        modes = MODES + "mode h(in, in, out)"
        self.ways([1, 0], "h(X, X, X)", ((1, 1),), ((1, 2),), mode="++-", modes=modes)
        self.ways([1, 0], "h(s(X), X, X)", ((("s", 2), 2),), ((("s", 2), 3),), mode="++-", modes=modes)
        self.ways([1, 0, 0], "p(f(X, s(X), X), X)", ((("f", 1, ("s", 1), 1),),), ((("f", 1, ("s", 2), 1),),),
                  ((("f", 1, ("s", 1), 2),),))
        self.ways([1], "p(X, f(X, X, s(X, X)))", (("a",),))
        self.ways([1], "g(f(X), X, X)", (("a",),), mode="-+-")


class RelationTest(LayCase):
    TOLD = [(e("a"), [("c",), (("s", 1),), (3,), (("s", "a"),)]), (e(3), [(4,), (3,)]),
            (e(), [(1, 2), (2, 2), ("a", "a")]),
            (G("a"), [(1, 1), (("s", 2), 2), (("s", "a"), "a")]), (F("a"), [()]), (K(), [()])]

    def test_a_relation_goal(self):
        self.ways([4, 2, 0], "p(X, Y) <- e(X, Y)", (("a",), self.TOLD), ((3,), self.TOLD), (("z",), self.TOLD))
        self.ways([2], "p(X, Z) <- e(X, Y), e(Y, Z)", (("a",), self.TOLD))
        self.ways([3], "p(X, f(U, V)) <- e(U, V)", ((1,), self.TOLD))
        self.ways([2], "p(X, U) <- e(U, U)", ((1,), self.TOLD))
        self.ways([2], "p(X, U) <- e(X, s(U))", (("a",), self.TOLD))
        self.ways([1], "p(X, U) <- e(X, s(X)), U = 1", (("a",), self.TOLD))
        self.ways([1, 0], "p(X, 1) <- e(X, 3)", (("a",), self.TOLD), ((3,), [(e(3), [(4,)])]))
        self.ways([1, 0], "p(X, 1) <- f(X), k", (("a",), self.TOLD), ((3,), self.TOLD))

    def test_unknowns_that_come_again(self):
        self.ways([2], "p(X, Y) <- g(s(Y), X, Y)", (("a",), self.TOLD))
        self.ways([1], "p(X, Y) <- g(Y, X, Y)", (("a",), self.TOLD))
        self.ways([1], "p(X, X) <- g(s(X), X, X)", (("a",), self.TOLD))
        self.ways([1], "p(X, Y) <- e(X, Y), e(Y, Y)", (("a",), self.TOLD))
        self.ways([8], "p(X, Y) <- e(X, Y), e(X, Z), f(X), 1 < 2, Z =/= 1, e(X, V)",
                  (("a",), [(e("a"), [(3,), (4,)]), (F("a"), [()])]))

    def test_terms_that_are_put_together(self):
        told = [(e(("s", ("t", "a", 3), "b")), [(1,)]), (e("b"), [(2,)])]
        self.ways([1, 0], "p(X, Y) <- e(s(t(X, 3), b), Y)", (("a",), told), (("b",), told))
        self.ways([1], "p(X, Y) <- e(b, Y)", (("a",), told))


class NotTest(LayCase):
    def test_nots(self):
        told = [(F("a"), [()]), (e("a"), [(1,), (("s", 2, 2),), (("s", 2, 3),)]), (G(1), [(1, 2), (2, 2)])]
        self.ways([0, 1], "p(X, X) <- not f(X)", (("a",), told), (("b",), told))
        self.ways([1, 0], "p(X, X) <- not k", (("a",), told), (("a",), [(K(), [()])]))
        self.ways([0, 1], "p(X, X) <- not e(X, Own)", (("a",), told), (("b",), told))
        self.ways([0], "p(X, X) <- not e(X, s(Own, Own))", (("a",), told))
        self.ways([1], "p(X, X) <- not e(X, s(Own, Own, Own))", (("a",), told))
        self.ways([1, 0], "p(X, X) <- not e(X, s(X, Own))", (("a",), told), (("a",), [(e("a"), [(("s", "a", 1),)])]))
        self.ways([0], "p(X, X) <- not g(Own, X, Own)", ((1,), told))
        self.ways([0, 1], "p(X, X) <- not g(X, X, Own)", ((1,), told), ((1,), [(G(1), [(2, 1)])]))
        self.ways([0, 1], "p(X, X) <- not e(X, 1)", (("a",), told), (("a",), [(e("a"), [(2,)])]))

    def test_twice_the_same(self):
        told = [(e("a"), [(1,)])]
        self.ways([0, 1], "p(X, X) <- not f(X), not f(X)", (("a",), [(F("a"), [()])]), (("b",), []))
        self.ways([0, 1], "p(X, X) <- not e(X, Own), not e(X, Other)", (("a",), told), (("b",), told))
        self.ways([1], "p(X, Y) <- e(X, Y), not e(Y, f(A, A)), not e(Y, f(B, C)), e(X, Z)", (("a",), told))

    def test_behind_others(self):
        told = [(e("a"), [(1,), (2,), (3,)]), (F(2), [()]), (e(3), [(9,)])]
        self.ways([1], "p(X, Y) <- e(X, Y), not f(Y), not e(Y, Own), Y < 3", (("a",), told))


class LikenessTest(LayCase):
    def test_known_on_the_left(self):
        self.ways([1], "p(X, Y) <- f(X, s(X), 3) = Y", ((1,),))
        self.ways([1, 0, 0], "p(X, Y) <- X = f(s(Y), 1, Y)", ((("f", ("s", 2), 1, 2),),), ((("f", ("s", 2), 1, 3),),),
                  ((1,),))
        self.ways([1], "p(X, Y) <- f(X, g(1, X)) = f(Y, g(Z, V))", ((1,),))
        self.ways([0], "p(X, Y) <- f(X, g(1, X)) = f(Y, h(Z, V))", ((1,),))
        self.ways([0], "p(X, Y) <- 1 = f(Y)", ((1,),))
        self.ways([0], "p(X, Y) <- a = f(Y, Y)", ((1,),))

    def test_known_on_the_right(self):
        self.ways([1], "p(X, Y) <- Y = f(X, s(X), 3)", ((1,),))
        self.ways([1, 0], "p(X, Y) <- f(s(Y), 1, Y) = X", ((("f", ("s", 2), 1, 2),),), ((("f", ("s", 2), 1, 3),),))
        self.ways([1], "p(X, f(Y, Z)) <- f(Y, Z, X) = f(1, 2, X)", (("a",),))

    def test_known_on_both_sides(self):
        self.ways([1, 0], "p(X, X) <- X = 1", ((1,),), ((2,),))
        self.ways([1, 0], "p(X, X) <- 1 = X", ((1,),), ((2,),))
        self.ways([1], "p(X, X) <- 3 = 3", ((1,),))
        self.ways([0], "p(X, X) <- a = 3", ((1,),))
        self.ways([1, 0], "p(X, X) <- f(X, g(X)) = f(1, g(X))", ((1,),), ((2,),))
        self.ways([1, 0], "p(X, Y) <- Y = 1, s(X, Y) = s(Y, X)", ((1,),), ((2,),))

    def test_a_known_side_that_is_put_together_and_never_matched(self):
        for let_by, refused in ((flat(59), flat(60)), (tower(11), tower(12))):
            for clause, many in (("p(X, 1) <- s(X) = 3", 0), ("p(X, 1) <- s(X) = t(Y)", 0),
                                 ("p(X, 1) <- s(X) = s(1)", 0),
                                 ("p(X, 1) <- s(X) = s(X)", 1), ("p(X, 1) <- s(X) = Y", 1), ("p(X, 1) <- Y = s(X)", 1),
                                 ("p(X, 1) <- t(Y) = s(X)", 0), ("p(X, 1) <- s(X) = s(X, X)", 0)):
                self.ways([many, "Open"], clause, ((let_by,),), ((refused,),))
        # The other side is matched alone.
        self.ways([0], "p(X, 1) <- 3 = s(X, X)", ((flat(60),),))
        self.ways([0], "p(X, 1) <- X = f(X, X, X)", ((flat(60),),))


class ReckoningTest(LayCase):
    def test_reckonings(self):
        self.ways([1, 0], "p(X, Y) <- Y is X * 2 + 1", ((3,),), (("a",),))
        self.ways([1, 0], "p(X, X) <- X is 3", ((3,),), ((4,),))
        self.ways([1, 0], "p(X, X) <- 4 is X + 1", ((3,),), ((4,),))
        self.ways([0, 0], "p(X, Y) <- s(Y) is X + 1", ((3,),), (("a",),))
        self.ways([0], "p(X, f(Y, Z)) <- s(Y, t(Z, X)) is X + 1, Z < 3, e(Z, Y)", ((3,),))
        self.ways([0], "p(X, X) <- a is X + 1", ((3,),))
        self.ways([1, 0], "p(X, Y) <- Y is 1 // X", ((2,),), ((0,),))
        self.ways([2], "p(X, Z) <- e(X, Y), Z is 10 // Y", ((1,), [(e(1), [(5,), ("a",), (0,), (2,)])]))

    def test_figures(self):
        for clause in ("p(X, Y) <- Y is X + 1", "p(X, X) <- a is X + 1", "p(X, 1) <- s(Y) is X + 1"):
            self.assertEqual(self.lay(clause, ((BIG - 1,),), ((BIG,),))[1], "Open")
        self.ways(["Open"], "p(X, Y) <- Y is X - 1", ((-BIG,),))


class FieldTest(LayCase):
    def test_fields(self):
        self.ways([3, 0, 0], "p(X, Y) <- Y in 1 .. X", ((3,),), ((0,),), (("a",),))
        self.ways([3, 0], "p(X, f(A, B)) <- A in 1 .. X and B in 1 .. X such A + B == X + 1", ((3,),), (("a",),))
        self.ways([0, 2, 0], "p(X, Y) <- Y in 1 .. 3 such Y < X", ((1,),), ((3,),), (("a",),))
        self.ways([0], "p(X, 1) <- Y in 1 .. 3 such 1 < 2 and X =/= X", (("a",),))
        self.ways([3], "p(X, f(Y, Z)) <- Y in 1 .. 2, Z in Y .. 2", ((1,),))
        self.ways([8], "p(X, f(A, B, C)) <- A in 0 .. 1 and B in 2 .. X and C in 0 .. 1 such A < B and B < 9", ((3,),))

    def test_ranges_unknowns_that_are_known_already(self):
        self.ways([1, 0, 0], "p(X, X) <- X in 1 .. 3", ((2,),), ((4,),), (("a",),))
        self.ways([2, 0], "p(X, Y) <- X in 1 .. 3 and Y in 1 .. 4 such X < Y", ((2,),), (("a",),))
        self.ways([1], "p(X, f(Y, Z)) <- Y = 2, Y in 1 .. 3 and Z in 5 .. 5 such Y < 3", ((7,),))

    def test_points_and_figures(self):
        self.ways([1, "Open"], "p(X, Y) <- Y in 1 .. X, Y < 2", ((400,),), ((401,),))
        self.ways(["Open"], "p(X, Y) <- Y in 1 .. X such Y < 1", ((401,),))
        self.ways(["Open", 0], "p(X, Y) <- Y in X + 1 .. 1 // 0", ((BIG,),), ((1,),))
        self.ways(["Open"], "p(X, X) <- X in 1 .. 401", ((3,),))
        self.ways(["Open"], "p(X, Y) <- Y in 1 .. 401 such X < Y", (("a",),))


class TestTest(LayCase):
    def test_tests(self):
        for sign, wanted in (("<", [1, 0, 0, 0]), ("=<", [1, 1, 0, 0]), ("==", [0, 1, 0, 0]), ("=/=", [1, 0, 1, 0])):
            self.ways(wanted, f"p(X, X) <- X {sign} 3", ((2,),), ((3,),), ((4,),), (("a",),))
        self.ways([0], "p(X, X) <- X // 0 =/= X", ((1,),))


class OpenTest(LayCase):
    """Open refuses a walk and a run alike, at the bound, one below and one above."""

    def test_what_is_put_together(self):
        for clause, many in (("p(X, Y) <- e(s(X), Y)", 0), ("p(X, X) <- not f(s(X))", 1), ("p(X, s(X))", 1),
                             ("p(X, X) <- not e(s(X), Own)", 1), ("p(X, s(X)) <- 1 < 2", 1)):
            self.ways([many, many, "Open", "Open"], clause,
                      ((flat(59),),), ((tower(11),),), ((flat(60),),), ((tower(12),),))
        modes = MODES + "mode w(in, out, out, out)"
        self.ways([1, "Open"], "w(X, s(X), s(X), X)", ((flat(59),),), ((flat(60),),), mode="+---", modes=modes)

    def test_what_no_way_comes_to(self):
        goals = ["e(s(X), Y)", "not f(s(X))", "s(X) = Y", "Y in 1 .. 401", f"Y is {BIG} + 1", f"Y in 1 .. {BIG} + 1"]
        for goal in goals:
            for ahead in ("1 < 0", "e(X, Z)", "X = 3", "not k"):
                self.ways([0], f"p(X, 1) <- {ahead}, {goal}", ((flat(60),), [(K(), [()])]))
                self.ways(["Open"], f"p(X, 1) <- {goal}, {ahead}", ((flat(60),), [(K(), [()])]))
        self.ways([0], "p(X, s(X)) <- X = 3", ((flat(60),),))
        self.ways([0], "p(3, s(a))", ((flat(60),),))

    def test_what_is_matched_is_never_measured(self):
        big = flat(60)
        self.ways([0], "p(X, 1) <- e(1, f(X, X, X))", ((big,), [(e(1), [(2,), (big,)])]))
        self.ways([1], "p(X, 1) <- not e(1, f(X, X, X))", ((big,), [(e(1), [(2,), (big,)])]))
        self.ways([0], "p(X, 1) <- f(X, X, X) is 3", ((big,),))

    def test_one_way_of_several(self):
        told = [(e(1), [(1,), (2,), (flat(60),), (3,)])]
        self.ways(["Open"], "p(X, 1) <- e(X, Y), f(s(Y))", ((1,), told))
        self.ways(["Open"], "p(X, s(Y)) <- e(X, Y)", ((1,), told))
        self.ways([1], "p(X, s(Y)) <- e(X, Y), 2 < Y", ((1,), told))


class GoalsTest(LayCase):
    def test_a_clause_with_a_goal_of_each_kind(self):
        clause = "p(X, f(Y, Z, V)) <- e(X, Y), not e(Y, Own), Y < 9, s(U) = s(Y), Z is U + 1, V in 1 .. Z such V =/= 2"
        told = [(e(1), [(2,), (3,), (9,), ("a",)]), (e(3), [(1,)])]
        self.ways([2, 0], clause, ((1,), told), ((2,), told))

    def test_in_each_mode(self):
        modes = "mode h(in, out) \n mode h(out, in) \n mode h(in, in) \n mode h(out, out) \n mode e(out, out)"
        for mode, ins in (("+-", ("a",)), ("-+", ("b",)), ("++", ("a", "b")), ("--", ())):
            told = [(e(), [("a", "b"), ("b", "b"), ("a", "c")])]
            self.assertNotIn(0, self.lay("h(X, Y) <- e(X, Y)", (ins, told), mode=mode, modes=modes))
            self.assertNotIn(0, self.lay("h(a, b)", (ins, told), mode=mode, modes=modes))

    def test_new_lists_each_time(self):
        program = Program(rows_of(MODES + "p(X, Y) <- e(X, Y), not f(Y)"))
        self.assert_new_each_time(laid, program, LINE, "+-")


class NoCallTest(LayCase):
    def test_just_where_plan_refuses(self):
        program = Program(test_walking.NoCallTest.ROWS)
        for line in [*range(-3, 12), 60, BIG, -BIG]:
            for mode in ("", "+", "-", "+-", "--", "-+", "++", "+--"):
                with self.subTest(line=line, mode=mode):
                    try:
                        program.plan(line, mode)
                    except NoCall:
                        for _ in range(2):
                            self.assert_refused(NoCall, {}, laid, program, line, mode)
                    else:
                        self.laid_codes(program, line, mode)


class ChanceTest(LayCase):
    def test_as_clauses_walk(self):
        seen = {}
        for maker in programs(range(3000, 3300)):
            house = slow.House(maker.rows)
            if house.refusal is None:
                program = Program(maker.rows)
                for title, mode, ins in maker.calls(3):
                    for line in house.lines(title):
                        codes = self.laid_codes(program, line, mode)
                        self.compare(maker, program, line, mode, ins, codes, seen)
        self.assertEqual(sorted(seen), [0, 1, 2, 3])

    def compare(self, maker, program, line, mode, ins, codes, seen):
        """By told lists that have more and more rows for what is met."""
        told = []
        for _ in range(4):
            wanted = outcome(walk_clause, program, line, mode, ins, told)
            self.assertEqual(outcome(run, codes, ins, told), wanted)
            if wanted == "Open":
                break
            seen[min(len(wanted[0]), 3)] = True
            told += maker.told([call for call in wanted[2] if call not in dict(told)])


class LongTest(LayCase):
    def test_long_clauses_and_fields_of_four_hundred_points(self):
        began = time.monotonic()
        told = [(e(1), [(number,) for number in range(60)])]
        self.ways([1], "p(X, Y) <- e(X, Y), Z in 1 .. 400 such Z * Z + Z == Y + 383, Y < 3 * Z", ((1,), told))
        goals = ", ".join(["e(X, f(A, b, s(B, t(C, d)), A))"] * 6)
        told = [(e(1), [(("f", number, "b", ("s", "b", ("t", 1, "d")), number),) for number in range(190)])]
        self.ways([190], f"p(X, A) <- {goals}", ((1,), told))
        self.assertLess(time.monotonic() - began, 30)


if __name__ == "__main__":
    unittest.main()
