"""[25] to [29]: programs, what is known in their clauses, the four looks, layers and plans."""

import random
import unittest

from goalstead.errors import Ill, Mixed, Modeless, NoCall, Notring
from goalstead.program import Program
from tests import slow
from tests.chance import programs
from tests.helpers import Case, program_of, rows_of

BIG = 10 ** 60


class ProgramCase(Case):
    def refused(self, kind, text, **fields):
        rows = rows_of(text) if isinstance(text, str) else text
        with self.subTest(rows):
            handed = list(rows)
            self.assert_refused(kind, fields, Program, handed)
            self.assert_refused(kind, fields, Program, handed)
            self.assertEqual(handed, rows)
            self.assertEqual(slow.House(rows).refusal, (kind.__name__, fields))

    def let_by(self, text):
        rows = rows_of(text) if isinstance(text, str) else text
        with self.subTest(rows):
            self.assertIsNone(slow.House(rows).refusal)
            return Program(rows)


class RelationsTest(ProgramCase):
    TEXT = """
        p(X, Y) <- q(X, Y), not r(X), Y < 9
        q(1, 2)
        q(1, 2)
        table q 2
        mode p(in, out)
        mode q(in, out)
        p(3, 4)
        mode q(out, out)
        mode r(in)
        mode q(in, out)
        mode lone
        table alone 4
        r(5) <- 1 < 2
    """

    def test_titles(self):
        program = program_of(self.TEXT)
        self.assertEqual(program.titles(), ["alone/4", "lone/0", "p/2", "q/2", "r/1"])
        self.assertEqual(Program([]).titles(), [])
        self.assertEqual(Program([("blank",), ("op", 3, "left", "&")]).titles(), [])

    def test_a_relation_that_only_one_kind_of_row_names(self):
        self.assertEqual(program_of("mode a(in)").titles(), ["a/1"])
        self.assertEqual(program_of("table a 0").titles(), ["a/0"])
        self.assertEqual(program_of("mode a \n a").titles(), ["a/0"])
        rows = [("mode", "a", ""), ("mode", "b", ""), ("mode", "c", ""), ("clause", "a", ("b", ("not", "c")))]
        self.assertEqual(Program(rows).titles(), ["a/0", "b/0", "c/0"])
        self.assertEqual(Program(rows).clauses("b/0"), [])

    def test_titles_in_order_by_signs(self):
        rows = [("mode", name, mode) for name, mode in
                [("b", "+"), ("ab", ""), ("a", "+-"), ("a", ""), ("//", "++"), ("/", "++"), ("a1", "-"), ("$", "+")]]
        wanted = ["$/1", "///2", "//2", "a/0", "a/2", "a1/1", "ab/0", "b/1"]
        self.assertEqual(Program(rows).titles(), wanted)

    def test_modes_in_the_order_of_lines_each_once(self):
        program = program_of(self.TEXT)
        self.assertEqual(program.modes("q/2"), ["+-", "--"])
        self.assertEqual(program.modes("p/2"), ["+-"])
        self.assertEqual(program.modes("lone/0"), [""])
        self.assertEqual(program.modes("alone/4"), [])
        program = Program([("mode", "a", mode) for mode in ("-+", "++", "-+", "--", "+", "++")])
        self.assertEqual(program.modes("a/2"), ["-+", "++", "--"])
        self.assertEqual(program.modes("a/1"), ["+"])

    def test_tables(self):
        program = program_of(self.TEXT)
        told = [title for title in program.titles() if program.is_tabled(title)]
        self.assertEqual(told, ["alone/4", "q/2"])
        self.assertIs(program.is_tabled("q/2"), True)
        self.assertIs(program.is_tabled("p/2"), False)
        self.assertIs(program_of("table a 1 \n mode a(in, in)").is_tabled("a/2"), False)

    def test_clauses_in_the_order_of_lines(self):
        program = program_of(self.TEXT)
        self.assertEqual(program.clauses("p/2"), [0, 6])
        # Equal clauses are two.
        self.assertEqual(program.clauses("q/2"), [1, 2])
        self.assertEqual(program.clauses("r/1"), [12])
        self.assertEqual(program.clauses("lone/0"), [])
        self.assertEqual(program.clauses("alone/4"), [])

    def test_a_clause_is_told_by_its_line(self):
        program = program_of(self.TEXT)
        goals = (("q", "X", "Y"), ("not", ("r", "X")), ("<", "Y", 9))
        self.assertEqual(program.clause(0), (("p", "X", "Y"), goals))
        self.assertEqual(program.clause(6), (("p", 3, 4), ()))
        for line in (3, 4, 11, 13, 14, -1, -13, -7, BIG, -BIG):
            with self.subTest(line):
                self.assert_refused(NoCall, {}, program.clause, line)

    def test_titles_that_the_program_does_not_have(self):
        program = program_of(self.TEXT)
        for title in ("zz/1", "p/1", "p/3", "p", "p/02", "/2", ""):
            with self.subTest(title):
                self.assertEqual(program.modes(title), [])
                self.assertIs(program.is_tabled(title), False)
                self.assertEqual(program.clauses(title), [])
                self.assertEqual(program.comes_to(title), [title])
                self.assertEqual(program.layer(title), 0)
        self.assertEqual(program.titles(), ["alone/4", "lone/0", "p/2", "q/2", "r/1"])

    def test_names_that_are_marks_also_with_strokes(self):
        rows = [
            ("mode", "/", "+-"), ("mode", "//", "+-"), ("mode", "/", "+"), ("table", "//", 2), ("mode", "-/-", "+"),
            ("clause", ("/", "X", "Y"), (("//", "X", "Y"), ("/", "X"), ("not", ("-/-", "X")))),
            ("clause", ("//", 1, 2), ()), ("clause", ("/", 1), ()), ("mode", "+", ""),
        ]
        program = self.let_by(rows)
        self.assertEqual(program.titles(), ["+/0", "-/-/1", "///2", "//1", "//2"])
        self.assertEqual([program.clauses(title) for title in program.titles()], [[], [], [6], [7], [5]])
        self.assertEqual([program.is_tabled(title) for title in program.titles()], [False, False, True, False, False])
        self.assertEqual(program.comes_to("//2"), ["-/-/1", "///2", "//1", "//2"])
        self.assertEqual(program.comes_to("///2"), ["///2"])
        met = [("-/-/1", "+", (1,)), ("///2", "+-", (1,)), ("//1", "+", (1,))]
        told = [(met[1], [(2,)]), (met[2], [()])]
        self.assertEqual(program.walk(("//2", "+-", (1,)), told), ([(2,)], met, 3))

    def test_sixty_rows(self):
        rows = [("mode", "p", "+")] + [("clause", ("p", number), (("p", number + 1),)) for number in range(59)]
        program = self.let_by(rows)
        self.assertEqual(program.clauses("p/1"), list(range(1, 60)))
        self.assertEqual(program.plan(59, "+"), ["+"])


class HandedTest(ProgramCase):
    def test_rows_that_are_changed_behind_it_change_nothing(self):
        rows = rows_of(RelationsTest.TEXT)
        kept = list(rows)
        program = Program(rows)
        self.assertEqual(rows, kept)
        rows[0] = ("mode", "late", "+")
        rows.append(("table", "p", 2))
        del rows[4:8]
        self.assertEqual(program.titles(), ["alone/4", "lone/0", "p/2", "q/2", "r/1"])
        self.assertEqual(program.clauses("p/2"), [0, 6])
        self.assertEqual(program.clause(0)[0], ("p", "X", "Y"))
        self.assertIs(program.is_tabled("p/2"), False)
        self.assertEqual(program.plan(0, "+-"), ["+-", "+", ""])
        rows.clear()
        self.assertEqual(program.modes("q/2"), ["+-", "--"])
        self.assertEqual(program.clause(12), (("r", 5), (("<", 1, 2),)))

    def test_told_lists_are_new_ones_each_time(self):
        program = program_of(RelationsTest.TEXT)
        self.assert_new_each_time(program.titles)
        for title in ("p/2", "q/2", "zz/1"):
            self.assert_new_each_time(program.modes, title)
            self.assert_new_each_time(program.clauses, title)
            self.assert_new_each_time(program.comes_to, title)
        self.assert_new_each_time(program.plan, 0, "+-")
        program.modes("zz/1").append("+")
        self.assertEqual(program.modes("zz/1"), [])

    def test_two_programs_have_nothing_in_common(self):
        one, two = program_of("mode p(in) \n p(1)"), program_of("mode p(in) \n table p 1 \n mode q")
        self.assertEqual((one.titles(), two.titles()), (["p/1"], ["p/1", "q/0"]))
        self.assertEqual((one.clauses("p/1"), two.clauses("p/1")), ([1], []))
        self.assertEqual((one.is_tabled("p/1"), two.is_tabled("p/1")), (False, True))


# Modes of the relations that the clauses below name.
MODES = """
    mode p(in, out)
    mode e(in, out)
    mode f(in)
    mode g(out, in, out)
    mode g(in, in, in)
    mode g(out, out, out)
    mode k
"""
MANY = len(rows_of(MODES))


class PlanCase(ProgramCase):
    def plan(self, wanted, clause, mode="+-", modes=MODES):
        rows = rows_of(f"{modes}\n{clause}")
        with self.subTest(clause=clause, mode=mode):
            line = len(rows) - 1
            self.assertEqual(self.let_by(rows).plan(line, mode), wanted)
            self.assertEqual(slow.House(rows).plan(line, mode), wanted)

    def ill(self, goal, clause, mode="+-", modes=MODES):
        rows = rows_of(f"{modes}\n{clause}")
        self.refused(Ill, rows, line=len(rows) - 1, mode=mode, goal=goal)


class PlanTest(PlanCase):
    def test_a_text_for_each_goal(self):
        self.plan([], "p(X, X)")
        self.plan(["+-"], "p(X, Y) <- e(X, Y)")
        clause = "p(X, Y) <- e(X, Z), not f(Z), Y = s(Z), V is Z + 1, V < 3, W in 1 .. V such W < Z"
        self.plan(["+-", "+", "right", "", "", ""], clause)
        self.plan(["", "left", ""], "p(X, Y) <- k, X = Y, Y in 1 .. 3")

    def test_the_first_mode_that_is_let_by(self):
        self.plan(["-+-"], "p(X, Y) <- g(Y, X, Y)")
        self.plan(["-+-"], "p(X, X) <- g(X, X, X)")
        self.plan(["---"], "p(X, Y) <- g(X, Y, X)")
        self.plan(["---", "-+-"], "p(X, Y) <- g(A, B, C), g(B, A, Y)")
        # The order of the mode rows tells which is the first, and where they stand does not matter.
        modes = "mode p(in, out) \n mode g(in, in, in) \n mode g(out, in, out)"
        self.plan(["+++"], "p(X, X) <- g(X, X, X)", modes=modes)
        rows = rows_of("mode p(in, out) \n p(X, X) <- g(X, X, X) \n mode g(out, in, out) \n mode g(in, in, in)")
        self.assertEqual(self.let_by(rows).plan(1, "+-"), ["-+-"])

    def test_parts_without_unknowns_are_known(self):
        self.plan(["+-", "+", "+"], "p(X, Y) <- e(s(a), Y), f(7), not f(b)")
        self.plan(["+-"], "p(X, Y) <- e(s(X, 3, X), Y)")

    def test_behind_a_relation_goal_all_its_unknowns_are_known(self):
        self.plan(["+-", "+-", "+", ""], "p(X, Y) <- e(X, s(Y, Z)), e(Z, V), f(V), Z < Y")
        self.ill(1, "p(X, Y) <- e(Z, Y)")
        self.ill(2, "p(X, Y) <- e(X, Y), f(Z)")
        self.ill(1, "p(X, Y) <- e(s(X, Z), Y)")
        self.ill(1, "p(X, Y) <- f(Y), e(X, Y)")

    def test_the_heads_plus_places_alone_are_known_ahead_of_the_goals(self):
        self.plan(["+", "+"], "p(s(X, Z), 1) <- f(X), f(Z)")
        self.ill(1, "p(1, Y) <- f(Y)")
        self.ill(1, "p(X, s(Y)) <- f(Y)")

    def test_the_heads_minus_places_at_the_end(self):
        self.ill(1, "p(X, Y)")
        self.ill(1, "p(1, Y)")
        self.ill(1, "p(X, s(X, Y))")
        self.ill(3, "p(X, s(Y, Z)) <- e(X, Y), f(Y)")
        self.ill(7, "p(X, Y) <- k, k, k, k, k, k")
        self.plan([], "p(X, s(X, 1))")
        # The first goal that is ill goes ahead of the end.
        self.ill(2, "p(X, Y) <- k, f(Z)")

    def test_the_plan_of_each_mode_of_a_head(self):
        modes = "mode h(in, in) \n mode h(out, in) \n mode h(out, out) \n mode e(in, out) \n mode e(out, out)"
        rows = rows_of(f"{modes}\n h(X, Y) <- e(X, Z), e(Y, Z), s(X) = s(Y)")
        program = self.let_by(rows)
        self.assertEqual(program.plan(5, "++"), ["+-", "+-", "left"])
        self.assertEqual(program.plan(5, "-+"), ["--", "+-", "left"])
        self.assertEqual(program.plan(5, "--"), ["--", "--", "left"])
        rows = rows_of(f"{modes}\n h(X, Y) <- X = Y")
        self.refused(Ill, rows, line=5, mode="--", goal=1)
        rows = rows_of(f"{modes.replace('mode h(out, out)', '')}\n h(X, Y) <- X = Y")
        self.assertEqual([self.let_by(rows).plan(4, mode) for mode in ("++", "-+")], [["left"], ["right"]])

    def test_lines_and_modes_of_which_there_is_no_plan(self):
        program = program_of(MODES + "p(X, X) \n k")
        self.assertEqual((program.plan(MANY, "+-"), program.plan(MANY + 1, "")), ([], []))
        for line, mode in ((0, "+-"), (MANY, "++"), (MANY, ""), (MANY, "-+"), (MANY, "+"), (MANY + 1, "+-"),
                           (MANY + 2, ""), (-1, ""), (-2, "+-"), (BIG, ""), (-BIG, "+-")):
            with self.subTest(line=line, mode=mode):
                self.assert_refused(NoCall, {}, program.plan, line, mode)


class NotTest(PlanCase):
    def test_the_mode_is_taken_likewise(self):
        self.plan(["+"], "p(X, X) <- not f(X)")
        self.plan(["+-"], "p(X, X) <- not e(X, X)")
        self.plan(["---"], "p(X, X) <- not g(X, Own, X)")
        self.plan(["-+-"], "p(X, X) <- not g(Own, X, Own)")
        self.plan([""], "p(X, X) <- not k")
        self.ill(1, "p(X, X) <- not f(Own)")
        self.ill(1, "p(X, X) <- not e(s(Own), X)")

    def test_own_unknowns(self):
        self.plan(["+-"], "p(X, X) <- not e(X, Own)")
        self.plan(["+-"], "p(X, X) <- not e(X, s(Own, Own, Two))")
        self.plan(["+-", "+-"], "p(X, X) <- not e(X, Own), not e(X, Two)")

    def test_own_unknowns_stand_nowhere_else(self):
        self.ill(1, "p(X, Y) <- not e(X, Y)")
        self.ill(1, "p(X, Y) <- not e(X, Y), e(X, Y)")
        self.ill(1, "p(X, X) <- not e(X, Own), e(X, Own)")
        self.ill(1, "p(X, X) <- not e(X, Own), not e(X, Own)")
        self.ill(1, "p(X, X) <- not e(X, Own), k, Own = 3")
        self.ill(1, "p(X, X) <- not e(X, Own), Own is 3")
        self.ill(1, "p(X, X) <- not e(X, Own), Own in 1 .. 3")
        self.ill(1, "p(X, X) <- not e(X, Own), Z in 1 .. 3 such Z < Own")
        self.ill(1, "p(X, X) <- not e(X, Own), 3 < Own")
        self.ill(2, "p(X, X) <- e(X, Z), not e(Z, Own), s(Own) = Z")

    def test_behind_a_goal_that_makes_them_known_they_are_not_its_own(self):
        self.plan(["+-", "+-"], "p(X, Y) <- e(X, Y), not e(X, Y)")
        self.plan(["right", "+-"], "p(X, Y) <- Y = 3, not e(X, Y)")
        self.plan(["", "+-", "+-"], "p(X, Y) <- Y in 1 .. 3, not e(X, Y), not e(Y, Y)")

    def test_behind_a_not_nothing_more_is_known(self):
        self.plan(["+-", "+-"], "p(X, Y) <- not e(X, Own), e(X, Y)")
        self.ill(1, "p(X, X) <- not e(X, Own), f(Own)")

    def test_of_an_unknown_that_only_an_ill_goal_ahead_has(self):
        # The goal ahead is ill already.
        self.ill(1, "p(X, X) <- Own < 3, not e(X, Own)")
        self.ill(1, "p(X, X) <- f(Own), not e(X, Own)")


class OtherGoalsTest(PlanCase):
    def test_a_likeness(self):
        self.plan(["left"], "p(X, Y) <- s(X) = s(Y)")
        self.plan(["right"], "p(X, Y) <- s(Y) = s(X)")
        self.plan(["left"], "p(X, X) <- X = s(X)")
        self.plan(["left"], "p(X, X) <- 3 = 3")
        self.plan(["left"], "p(X, Y) <- 3 = Y")
        self.plan(["right"], "p(X, Y) <- Y = 3")
        self.plan(["right", "+"], "p(X, Y) <- f(Y, Z, X) = X, f(Z)")
        self.plan(["left", "+"], "p(X, Y) <- X = f(Y, Z, X), f(Z)")
        self.ill(1, "p(X, Y) <- Y = Z")
        self.ill(1, "p(X, Y) <- f(X, Y) = f(Z, X)")
        self.ill(1, "p(X, Y) <- Y = Y")

    def test_a_reckoning(self):
        self.plan([""], "p(X, Y) <- Y is X + 1")
        self.plan([""], "p(X, X) <- X is X + 1")
        self.plan(["", "+"], "p(X, Y) <- f(Y, Z) is 3, f(Z)")
        self.ill(1, "p(X, Y) <- Y is Y + 1")
        self.ill(1, "p(X, Y) <- X is Y")
        self.ill(2, "p(X, Y) <- k, Y is X * (2 - Z)")

    def test_a_test(self):
        for sign in ("<", "=<", "==", "=/="):
            self.plan([""], f"p(X, X) <- X {sign} 3 + X")
            self.ill(1, f"p(X, X) <- X {sign} Z")
            self.ill(1, f"p(X, X) <- 2 * Z {sign} X")
        self.ill(2, "p(X, Y) <- X < 3, Y < 3")

    def test_a_field(self):
        self.plan(["", "+"], "p(X, Y) <- Y in 1 .. X, f(Y)")
        self.plan(["", "", "+"], "p(X, Y) <- Y in X .. 9 and Z in 1 .. 2 such Y < Z + X and Z =/= Y, Z < 3, f(Z)")
        self.ill(1, "p(X, Y) <- Y in 1 .. Z")
        self.ill(1, "p(X, Y) <- Y in Z .. 3")
        self.ill(1, "p(X, Y) <- V in 1 .. 3 and Y in 1 .. X * Z")
        self.ill(1, "p(X, Y) <- Y in 1 .. 3 such Y < Z")
        self.ill(1, "p(X, Y) <- Y in 1 .. 3 such Y < 3 and Z < Y")
        self.ill(2, "p(X, X) <- Y in 1 .. 3, Z < Y")

    def test_a_field_whose_ranges_unknown_is_known_already(self):
        self.plan([""], "p(X, X) <- X in 1 .. 3")
        self.plan(["+-", ""], "p(X, Y) <- e(X, Y), Y in 1 .. X such Y < X")

    def test_names_of_signs_as_relations(self):
        rows = [("mode", "+", "+-"), ("mode", "mod", "+-"), ("clause", ("+", "X", "Y"), (("mod", "X", "Y"),))]
        self.assertEqual(self.let_by(rows).plan(2, "+-"), ["+-"])


class LooksTest(ProgramCase):
    def test_modeless(self):
        self.refused(Modeless, "a", line=0, goal=0)
        self.refused(Modeless, "mode a \n\n a \n b", line=2, goal=0)
        self.refused(Modeless, "mode a \n a <- b", line=1, goal=1)
        self.refused(Modeless, "mode a \n a <- a, 1 < 2, not b", line=1, goal=3)
        self.refused(Modeless, "mode a \n table b 0 \n a <- b, c", line=2, goal=1)
        self.refused(Modeless, "mode a \n mode b(in) \n a <- a, a, a, a, a, not b", line=2, goal=6)
        # The head goes ahead of the goals, and one goal ahead of those behind it.
        self.refused(Modeless, "mode a \n b <- c, a", line=1, goal=0)
        self.refused(Modeless, "mode a \n mode b \n a \n a <- b, d, c \n c", line=3, goal=2)
        self.refused(Modeless, "a(1) \n mode a(in, in)", line=0, goal=0)

    def test_modes_of_another_number_of_places_are_no_modes(self):
        self.refused(Modeless, "mode a(in) \n a", line=1, goal=0)
        self.refused(Modeless, "mode a \n mode b(in) \n a <- b(1, 2)", line=2, goal=1)

    def test_other_goals_and_mode_and_table_rows_are_no_relations_of_a_clause(self):
        self.let_by("mode a \n table b 3 \n a <- 1 < 2, X = c, Y is 1, Z in 1 .. 2")
        self.let_by("table b 3 \n table b 2")
        self.let_by([])

    def test_ill_in_which_mode(self):
        modes = "mode p(in, in) \n mode p(in, out) \n mode p(out, in) \n mode e(in)"
        self.refused(Ill, f"{modes} \n p(X, Y) <- e(X), e(Y)", line=4, mode="+-", goal=2)
        self.refused(Ill, f"{modes} \n p(X, X) \n p(X, Y) <- Y = 1, e(X)", line=5, mode="-+", goal=2)
        self.refused(Ill, f"{modes} \n p(X, Y) <- e(Z)", line=4, mode="++", goal=1)
        self.refused(Ill, f"{modes} \n p(X, Y) <- e(X), Y = 1, e(Z)", line=4, mode="++", goal=3)
        self.refused(Ill, f"{modes} \n p(X, Y) <- Y = 1", line=4, mode="-+", goal=2)

    def test_ill_at_the_least_line(self):
        self.refused(Ill, "mode p(in) \n p(1) \n p(X) <- p(Y) \n p(X) <- p(Z)", line=2, mode="+", goal=1)
        self.refused(Ill, "mode p(out) \n mode q(in) \n q(X) \n p(X)", line=3, mode="-", goal=1)

    def test_mixed(self):
        self.refused(Mixed, "mode a \n mode b \n table a 0 \n b <- a \n a <- b", line=3)
        self.refused(Mixed, "mode a \n mode b \n table b 0 \n b <- a \n a <- b", line=3)
        self.refused(Mixed, "table a 0 \n mode a \n mode b \n mode c \n a \n b <- c, 1 < 2 \n c <- a \n a <- b", line=6)
        self.refused(Mixed, "mode a \n mode b \n a <- b \n b <- not a \n table b 0", line=2)
        self.refused(Mixed, "mode a \n mode b \n b <- 1 < 2, not a \n a <- b \n table b 0", line=2)
        # Tabled and other relations beside one another, but on no ring.
        self.let_by("mode a \n mode b \n table a 0 \n b <- a \n a \n a <- a")
        self.let_by("mode a \n mode b \n table b 0 \n b <- a \n a <- a")

    def test_notring(self):
        self.refused(Notring, "mode a \n a <- not a", line=1)
        self.refused(Notring, "mode a \n table a 0 \n a \n a <- a, not a", line=3)
        self.refused(Notring, "mode a \n mode b \n a <- b \n b <- not a", line=3)
        self.refused(Notring, "mode a \n mode b \n mode c \n a <- not c \n b <- not c, a \n c <- b", line=3)
        self.refused(Notring, "mode a(in) \n a(X) <- X = s(Y), not a(Y)", line=1)
        # Nots beside rings, but on none.
        self.let_by("mode a \n mode b \n a <- not b, a \n b <- b")
        self.let_by("mode a \n mode b \n mode c \n a <- not b \n a <- not c \n b <- not c")

    def test_each_kind_ahead_of_the_next_even_at_a_greater_line(self):
        modeless, ill, mixed, notring = "m", "i(X) <- i(Y)", "x <- t \n t <- x", "n <- not n"
        modes = "mode i(in) \n mode x \n mode t \n table t 0 \n mode n"
        self.refused(Modeless, f"{modes} \n {notring} \n {mixed} \n {ill} \n {modeless}", line=9, goal=0)
        self.refused(Ill, f"{modes} \n {notring} \n {mixed} \n {ill}", line=8, mode="+", goal=1)
        self.refused(Mixed, f"{modes} \n {notring} \n {mixed}", line=6)
        self.refused(Notring, f"{modes} \n {notring} \n x \n t", line=5)

    def test_two_kinds_in_one_line(self):
        self.refused(Modeless, "mode i(in) \n i(X) <- i(Y), m", line=1, goal=2)
        self.refused(Ill, "mode i(in) \n i(X) <- not i(X), i(Y)", line=1, mode="+", goal=2)
        self.refused(Mixed, "mode a \n mode b \n table b 0 \n a <- not b \n b <- a", line=3)

    def test_nothing_else_is_refused(self):
        self.let_by("""
            mode a(in)
            mode none(in)
            table lone 2
            a(1)
            a(1)
            a(X) <- none(X)
            a(X) <- none(X)
            mode unasked
            unasked <- a(1), 1 < 0
            mode a(in)
            table lone 2
        """)

    def test_by_chance(self):
        seen = {}
        for maker in programs(range(600)):
            wanted = slow.House(maker.rows).refusal
            seen[wanted and wanted[0]] = True
            if wanted is None:
                Program(maker.rows)
            else:
                name, fields = wanted
                kind = {"Ill": Ill, "Mixed": Mixed, "Notring": Notring}[name]
                self.assert_refused(kind, fields, Program, maker.rows)
        self.assertEqual(len(seen), 4)


class ComesToTest(ProgramCase):
    def test_rings_through_relations(self):
        for table in ("", "\n table a 0 \n table b 0 \n table c 0"):
            modes = "mode a \n mode b \n mode c \n mode d"
            program = self.let_by(f"{modes} \n a <- b \n b <- c \n c <- a \n d <- c {table}")
            for title in ("a/0", "b/0", "c/0"):
                self.assertEqual(program.comes_to(title), ["a/0", "b/0", "c/0"])
            self.assertEqual(program.comes_to("d/0"), ["a/0", "b/0", "c/0", "d/0"])

    def test_a_ring_of_one_clause(self):
        program = self.let_by("mode a(in) \n a(X) <- a(s(X)) \n table a 1 \n mode b(in) \n b(X) <- not a(X)")
        self.assertEqual(program.comes_to("a/1"), ["a/1"])
        self.assertEqual(program.comes_to("b/1"), ["a/1", "b/1"])

    def test_by_nots_too_and_in_order_by_signs(self):
        program = self.let_by("mode z \n mode c \n mode b(in) \n mode b \n c <- not z, b(1) \n z <- not b")
        self.assertEqual(program.comes_to("c/0"), ["b/0", "b/1", "c/0", "z/0"])
        self.assertEqual(program.comes_to("z/0"), ["b/0", "z/0"])
        self.assertEqual(program.comes_to("b/1"), ["b/1"])

    def test_by_chance(self):
        for maker in programs(range(150)):
            house = slow.House(maker.rows)
            if house.refusal is None:
                program = Program(maker.rows)
                self.assertEqual(program.titles(), sorted(house.titles))
                for title in house.titles:
                    wanted = sorted(other for other in house.titles if (title, other) in house.comes)
                    self.assertEqual(program.comes_to(title), wanted)
                    self.assertEqual(program.layer(title), house.layer(title))
                    for line in house.lines(title):
                        for mode in house.modes[title]:
                            self.assertEqual(program.plan(line, mode), house.plan(line, mode))


class LayerTest(ProgramCase):
    def layers(self, text, **wanted):
        program = self.let_by(text)
        self.assertEqual({name: program.layer(f"{name}/0") for name in wanted}, wanted)

    def test_layers(self):
        self.layers("mode a \n mode b \n a <- b \n b", a=0, b=0)
        self.layers("mode a \n mode b \n a <- not b \n b", a=1, b=0)
        self.layers("mode a \n mode b \n mode c \n a <- not b \n b <- not c \n c", a=2, b=1, c=0)
        self.layers("mode a \n mode b \n mode c \n a <- not c \n a <- b \n b <- not c", a=1, b=1, c=0)
        self.layers("mode a \n mode b \n mode c \n mode d \n a <- d \n d <- b \n b <- not c, c", a=1, b=1, c=0, d=1)

    def test_rings_have_one_layer(self):
        self.layers("mode a \n mode b \n mode c \n a <- b \n b <- a, not c \n c <- c", a=1, b=1, c=0)
        text = "mode a \n mode b \n mode c \n mode d \n a <- b \n b <- a \n a <- not c \n d <- not a"
        self.layers(text, a=1, b=1, c=0, d=2)

    def test_as_small_as_they_can_be(self):
        text = "mode a \n mode b \n mode c \n mode d \n mode e \n"
        self.layers(text + "a <- not b \n b <- c \n c <- not d \n d \n a <- not d \n e <- a, not c",
                    a=2, b=1, c=1, d=0, e=2)
        self.layers(text + "e <- not d \n d <- not c \n c <- not b \n b <- not a \n a", a=0, b=1, c=2, d=3, e=4)

    def test_many_layers(self):
        names = [f"a{number}" for number in range(30)]
        rows = [("mode", name, "") for name in names]
        rows += [("clause", one, (("not", two),)) for one, two in zip(names, names[1:])]
        for mixed in (rows, rows[::-1], random.Random(28).sample(rows, len(rows))):
            program = self.let_by(mixed)
            self.assertEqual([program.layer(f"{name}/0") for name in names], list(range(29, -1, -1)))


if __name__ == "__main__":
    unittest.main()
