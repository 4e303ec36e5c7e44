"""[51] to [56], as far as papers are told: warrants, turns and grounds, looked at by a slow reading of these rows."""

import time
import unittest

from goalstead.books import book_of
from goalstead.errors import NoCall, NoRow, NoTurn, Open, Round
from goalstead.lots import lot_of
from goalstead.papers import grounds_of, turn_of, warrant_of
from goalstead.program import Program
from tests import slow
from tests.chance import programs
from tests.helpers import Case, program_of, rows_of
from tests.test_books import DOWN
from tests.test_lots import PATHS, e, one, p
from tests.test_walks import NO_CALLS, TEXT

RING = PATHS.replace("e(b, c)", "e(b, a)")

# A clause with a goal of each kind.
KINDS = """
    mode a(in, out)
    a(X, f(Y, Z, V)) <- n(X, Y), not n(Y, Own), Y < 9, s(U) = s(Y), Z is U + 1, V in 1 .. Z such V =/= 2
    mode n(in, out)
    n(1, 2)
    n(3, 4)
    n(4, 1)
    n(3, 1)
"""


def a(*ins):
    return ("a/2", "+-", ins)


class PaperCase(Case):
    def refused(self, kind, function, text, *places, **most):
        with self.subTest(text=text, places=places, most=most):
            program = program_of(text)
            for _ in range(2):
                self.assert_refused(kind, {}, function, program, *places, **most)

    def are_well_made(self, steps, house):
        """The kinds of values of steps, and that marks name steps ahead of theirs."""
        for number, step in enumerate(steps):
            self.assertIs(type(step), tuple)
            call, row, line, marks = step
            self.assertEqual([type(part) for part in step], [tuple, tuple, int, tuple])
            self.assertIn(line, house.lines(call[0]))
            goals = house.clauses[line][1]
            self.assertEqual(len(marks), len(goals))
            for goal, mark in zip(goals, marks):
                if slow.oracle.is_relation(goal):
                    self.assertIs(type(mark), int)
                    self.assertIn(mark, range(number))
                elif goal[0] in ("in", "and", "such"):
                    self.assertIs(type(mark), tuple)
                else:
                    self.assertIsNone(mark)

    def warrant(self, text, call, **most):
        """The warrant that is told, looked at."""
        rows = rows_of(text) if isinstance(text, str) else text
        program, house = Program(rows), slow.House(rows)
        paper = warrant_of(program, call, **most)
        self.assertEqual([type(part) for part in (paper, *paper)], [tuple, list, list])
        self.assertEqual(paper[0], book_of(program, call, **most))
        self.are_well_made(paper[1], house)
        self.assertTrue(house.warrant_holds(call, paper))
        self.assertTrue(slow.are_unlike(paper[1]))
        return paper

    def turn(self, text, call, **most):
        rows = rows_of(text) if isinstance(text, str) else text
        program, house = Program(rows), slow.House(rows)
        paper = turn_of(program, call, **most)
        self.assertEqual([type(part) for part in (paper, *paper)], [tuple, list, list, list])
        self.assertEqual(paper[0], lot_of(program, call, **most))
        self.are_well_made(paper[1], house)
        self.assertTrue(house.turn_holds(call, paper))
        self.assertTrue(slow.are_unlike(paper[1]))
        return paper

    def grounds(self, text, call, row, **most):
        rows = rows_of(text) if isinstance(text, str) else text
        program, house = Program(rows), slow.House(rows)
        steps = grounds_of(program, call, row, **most)
        self.assertIs(type(steps), list)
        self.are_well_made(steps, house)
        self.assertTrue(house.grounds_hold(call, row, house.lot(call), steps))
        return steps


class WarrantTest(PaperCase):
    def test_the_steps_of_tabled_rows(self):
        _, steps = self.warrant(PATHS + "table p 2", p("a"))
        have = {step[:2] for step in steps}
        for wanted in ((p("a"), ("b",)), (p("a"), ("c",)), (p("b"), ("c",))):
            self.assertIn(wanted, have)
        # The rows of e are not tabled, but the steps of p's rows name theirs.
        self.assertIn((e("a"), ("b",)), have)

    def test_a_book_of_calls_that_are_not_tabled(self):
        self.warrant(PATHS, p("a"))
        self.warrant(PATHS, p("c"))
        self.warrant("mode a \n a <- 1 < 0", one("a"))
        self.warrant("mode a(out) \n a(3) \n a(2) \n a(3)", ("a/1", "-", ()))

    def test_rings_of_tabled_calls(self):
        book, steps = self.warrant(RING + "table p 2", p("a"))
        self.assertEqual(dict(book)[p("a")], [("a",), ("b",)])
        self.assertGreaterEqual(len(steps), 6)
        text = "mode a(in, out) \n table a 2 \n a(X, Y) <- a(X, Z), Y is (Z + 1) mod 7 \n a(X, X)"
        _, steps = self.warrant(text, a(3))
        self.assertEqual(len(steps), 7)

    def test_a_row_that_comes_of_itself_has_another_ground(self):
        text = "mode a(out) \n table a 1 \n a(X) <- a(X) \n a(X) <- b(X) \n mode b(out) \n b(2) \n b(1)"
        _, steps = self.warrant(text, ("a/1", "-", ()))
        self.assertEqual({step[2] for step in steps if step[0][0] == "a/1"}, {3})

    def test_each_kind_of_mark(self):
        self.warrant(KINDS, a(1))
        for text in (KINDS + "\n table a 2", KINDS + "\n table n 2 \n table a 2"):
            _, steps = self.warrant(text, a(1))
            found = {row: marks for call, row, _, marks in steps if call == a(1)}
            self.assertEqual(sorted(found), [(("f", 2, 3, 1),), (("f", 2, 3, 3),)])
            for ((_, _, _, number),), marks in found.items():
                self.assertEqual(marks[1:], (None, None, None, None, (number,)))
                self.assertEqual(steps[marks[0]][:2], (("n/2", "+-", (1,)), (2,)))

    def test_points_of_fields_with_several_ranges(self):
        text = "mode a(in, out) \n table a 2 \n a(X, Y) <- Z in 1 .. X and Y in 0 .. 2 such X + Y == Z + 2, Z in 2 .. 9"
        _, steps = self.warrant(text, a(3))
        for _, (number,), _, marks in steps:
            self.assertEqual(marks, ((number + 1, number), (number + 1,)))
        self.assertEqual(len(steps), 2)

    def test_nots_are_held_by_the_book(self):
        text = "mode a(in) \n mode b(in) \n mode c(in) \n table a 1 \n a(X) <- not b(X) \n b(X) <- not c(X) \n c(1)"
        for ins in (1, 2):
            book, steps = self.warrant(text, one("a", ins))
            self.assertEqual(dict(book)[one("a", ins)], [()] if ins == 1 else [])

    def test_calls_a_hundred_deep(self):
        self.warrant(DOWN, one("a", 99))
        self.warrant(DOWN + "\n table a 1", one("a", 99))
        up = "mode a(in, out) \n {} \n a(X, Y) <- X < 30, Z is X + 1, a(Z, Y) \n a(30, end)"
        for table in ("", "table a 2"):
            _, steps = self.warrant(up.format(table), a(0))
            if table:
                self.assertEqual(len(steps), 31)

    def test_most(self):
        self.warrant(PATHS, p("a"), most=16)
        self.refused(Open, warrant_of, PATHS, p("a"), most=15)

    def test_refusals(self):
        self.refused(Round, warrant_of, RING, p("a"))
        self.refused(Round, warrant_of, "mode a \n mode b \n table a 0 \n a <- b \n a \n b <- b", one("a"))
        self.refused(Open, warrant_of, DOWN, one("a", 100))
        self.refused(Open, warrant_of, "mode a(in) \n a(X) <- a(X) \n a(X) <- Y is X + 1, a(Y)", one("a", 1))
        for call in NO_CALLS:
            self.refused(NoCall, warrant_of, TEXT + "\n table lone 2", call)
            self.refused(NoCall, warrant_of, TEXT + "\n table lone 2", call, most=1)


class TurnTest(PaperCase):
    def test_a_call_that_leads_to_itself(self):
        self.assertEqual(self.turn("mode a \n a <- a", one("a")), ([(one("a"), [])], [], [one("a"), one("a")]))
        lot, steps, ring = self.turn("mode a \n a <- a \n a", one("a"))
        self.assertEqual((lot, len(steps), ring), ([(one("a"), [()])], 1, [one("a"), one("a")]))
        self.assertEqual(steps[0], (one("a"), (), 2, ()))

    def test_a_ring_of_several_calls(self):
        _, _, ring = self.turn(RING, p("a"))
        self.assertEqual(ring[0], p("a"))
        text = "mode a(in) \n a(X) <- Y is (X + 1) mod 4, a(Y)"
        _, _, ring = self.turn(text, one("a", 2))
        self.assertEqual({call[2][0] for call in ring}, {0, 1, 2, 3})

    def test_a_ring_that_the_asked_call_is_not_on(self):
        text = "mode a(in) \n mode b(in) \n {} \n a(X) <- Y is X + 1, b(Y) \n b(X) <- Y is X mod 3, c(Y) \n" \
               "mode c(in) \n c(X) <- d(X), c(X) \n mode d(in) \n d(X) <- not f(X) \n mode f(in) \n f(0)"
        for table in ("", "table a 1", "table a 1 \n table b 1"):
            _, _, ring = self.turn(text.format(table), one("a", 3))
            self.assertEqual(ring[0], one("a", 3))
            self.assertEqual(ring[-1][0], "c/1")
            self.refused(NoTurn, turn_of, text.format(table), one("a", 2))

    def test_a_ring_below_a_not(self):
        _, _, ring = self.turn("mode a \n mode b \n a <- not b \n b <- b", one("a"))
        self.assertEqual(ring, [one("a"), one("b"), one("b")])

    def test_each_row_has_a_step(self):
        text = "mode a(in, out) \n a(X, Y) <- Z is (X + 1) mod 3, a(Z, Y) \n a(X, X) \n a(X, Y) <- a(X, Z), Y is Z * 0"
        lot, steps, _ = self.turn(text, a(5))
        self.assertEqual({step[:2] for step in steps}, {(call, row) for call, rows in lot for row in rows})

    def test_most(self):
        self.turn("mode a(in) \n a(X) <- a(X) \n a(1)", one("a", 1), most=3)
        self.refused(Open, turn_of, "mode a(in) \n a(X) <- a(X) \n a(1)", one("a", 1), most=2)

    def test_refusals(self):
        self.refused(NoTurn, turn_of, PATHS, p("a"))
        self.refused(NoTurn, turn_of, RING + "table p 2", p("a"))
        self.refused(Open, turn_of, DOWN, one("a", 100))
        self.refused(Open, turn_of, "mode a(in) \n a(X) <- a(X) \n a(X) <- Y is X + 1, a(Y)", one("a", 1))
        for call in NO_CALLS:
            self.refused(NoCall, turn_of, TEXT + "\n table lone 2", call)
            self.refused(NoCall, turn_of, TEXT + "\n table lone 2", call, most=1)


class GroundsTest(PaperCase):
    def test_they_end_in_the_asked_row(self):
        self.assertEqual(self.grounds(PATHS, e("a"), ("b",)), [(e("a"), ("b",), 1, ())])
        steps = self.grounds(PATHS, p("a"), ("c",))
        self.assertEqual([step[:2] for step in steps][-1], (p("a"), ("c",)))
        self.assertEqual(len(steps), 4)
        self.assertEqual(len(self.grounds(PATHS, p("a"), ("b",))), 2)

    def test_each_row_of_a_lot(self):
        for text in (PATHS, RING, PATHS + "table p 2", RING + "table p 2"):
            for row in dict(lot_of(program_of(text), p("a")))[p("a")]:
                self.grounds(text, p("a"), row)

    def test_where_the_lot_is_round(self):
        self.assertEqual(self.grounds("mode a \n a <- a \n a", one("a"), ()), [(one("a"), (), 2, ())])
        text = "mode a(in, out) \n a(X, Y) <- Z is (X + 1) mod 5, a(Z, Y) \n a(3, 3)"
        steps = self.grounds(text, a(4), (3,))
        self.assertEqual(len(steps), 5)

    def test_a_step_that_two_others_name_stands_once(self):
        text = "mode a \n mode b \n mode c \n a <- b, c, b \n b <- c \n c"
        steps = self.grounds(text, one("a"), ())
        self.assertEqual([step[0] for step in steps], [one("c"), one("b"), one("a")])
        self.assertEqual(steps[-1][3], (1, 0, 1))

    def test_each_kind_of_mark(self):
        steps = self.grounds(KINDS, a(1), (("f", 2, 3, 1),))
        self.assertEqual(steps, [(("n/2", "+-", (1,)), (2,), 3, ()),
                                 (a(1), (("f", 2, 3, 1),), 1, (0, None, None, None, None, (1,)))])

    def test_rows_that_the_call_does_not_have(self):
        for row in (("a",), (1,), (), ("b", "c"), (("s", "b"),)):
            self.refused(NoRow, grounds_of, PATHS, p("a"), row)
        self.refused(NoRow, grounds_of, PATHS, p("c"), ("b",))
        self.refused(NoRow, grounds_of, "mode a \n a <- a", one("a"), ())
        # A row of another call of the lot is none of this one's.
        self.refused(NoRow, grounds_of, PATHS, p("b"), ("b",))

    def test_most(self):
        self.grounds(PATHS, p("a"), ("c",), most=16)
        self.refused(Open, grounds_of, PATHS, p("a"), ("c",), most=15)

    def test_open_and_no_call_go_ahead_of_no_row(self):
        self.refused(Open, grounds_of, DOWN, one("a", 100), (7,))
        self.refused(Open, grounds_of, "mode a(in) \n a(1) \n a(X) <- Y is X + 1, a(Y)", one("a", 1), ())
        for call in NO_CALLS:
            self.refused(NoCall, grounds_of, TEXT + "\n table lone 2", call, (1,))
            self.refused(NoCall, grounds_of, TEXT + "\n table lone 2", call, (1,), most=1)


class HandedTest(PaperCase):
    def test_told_lists_are_new_ones_each_time(self):
        for text, function, places in (
            (PATHS + "table p 2", warrant_of, (p("a"),)), (RING, turn_of, (p("a"),)),
            (PATHS, grounds_of, (p("a"), ("c",))),
        ):
            program = program_of(text)
            kept, told = function(program, *places), function(program, *places)
            self.assertEqual(kept, told)
            for part in [told] if isinstance(told, list) else told:
                for thing in part:
                    if len(thing) == 2 and isinstance(thing[1], list):
                        thing[1].append("mine")
                part.clear()
            self.assertEqual(function(program, *places), kept)

    def test_two_programs_have_nothing_in_common(self):
        one_program, two_program = program_of(PATHS), program_of(PATHS.replace("e(b, c)", "e(b, d)"))
        self.assertEqual(dict(warrant_of(one_program, p("a"))[0])[p("a")], [("b",), ("c",)])
        self.assertEqual(dict(warrant_of(two_program, p("a"))[0])[p("a")], [("b",), ("d",)])
        self.assert_refused(NoRow, {}, grounds_of, two_program, p("a"), ("c",))


class ChanceTest(PaperCase):
    def test_as_the_slow_reading_looks(self):
        seen = {}
        for maker in programs(range(1100, 1500)):
            house = slow.House(maker.rows)
            if house.refusal is None:
                for call in maker.calls(3):
                    seen[self.compare(maker, house, call)] = True
        self.assertEqual(sorted(seen), ["book", "open", "round"])

    def compare(self, maker, house, call):
        program, verdict = Program(maker.rows), house.verdict(call)
        if verdict == "book":
            self.warrant(maker.rows, call)
            self.assert_refused(NoTurn, {}, turn_of, program, call)
        elif verdict == "round":
            self.turn(maker.rows, call)
            self.assert_refused(Round, {}, warrant_of, program, call)
        else:
            for function in (warrant_of, turn_of):
                self.assert_refused(Open, {}, function, program, call)
            self.assert_refused(Open, {}, grounds_of, program, call, ())
            return verdict
        rows = house.lot(call)[call]
        for row in rows[:4]:
            self.grounds(maker.rows, call, row)
        stray = ("zz",) * call[1].count("-") or (0,)
        if stray not in rows:
            self.assert_refused(NoRow, {}, grounds_of, program, call, stray)
        return verdict


class LongTest(PaperCase):
    """Long but promised inputs end in seconds."""

    def test_sixty_rows_and_lots_near_two_hundred_things(self):
        began = time.monotonic()
        facts = "\n".join(f"a(f({number}))" for number in range(56))
        for table in ("", "table a 1"):
            warrant_of(program_of(f"{DOWN} \n {table} \n {facts}"), one("a", 98))
        text = "mode a(out) \n table a 1 \n a(0) \n a(Y) <- a(X), Y is X + 1, Y < 48"
        self.assertEqual(len(self.grounds(text, ("a/1", "-", ()), (47,))), 48)
        test = "X * X * X - 3 * X * X + 7 * X =/= A and X * X == A"
        fields = "\n".join(f"a(A, X) <- X in {number} .. {number + 399} such {test}" for number in range(58))
        warrant_of(program_of(f"mode a(in, out) \n {fields}"), a(169))
        self.assertLess(time.monotonic() - began, 20)


if __name__ == "__main__":
    unittest.main()
