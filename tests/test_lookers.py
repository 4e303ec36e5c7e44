"""[51] to [55]: when steps, warrants and turns hold, whoever wrote them."""

import time
import unittest

from goalstead.books import book_of
from goalstead.lookers import step_holds, turn_holds, warrant_holds
from goalstead.lots import lot_of, verdict_of
from goalstead.papers import grounds_of, turn_of, warrant_of
from goalstead.program import Program
from tests import slow
from tests.chance import programs
from tests.helpers import Case, program_of, rows_of
from tests.test_books import DOWN
from tests.test_lots import e, one, p
from tests.test_papers import KINDS, RING, a
from tests.test_walking import BIG, flat, tower
from tests.test_walks import NO_CALLS, TEXT

HUGE = 10 ** 4000


class LookCase(Case):
    """Papers looked at, also by the slow reading; what is handed in stays as it was."""

    def look(self, wanted, function, slowly, program, *places):
        handed = repr(places)
        for _ in range(2):
            self.assertIs(function(program, *places), wanted)
        self.assertEqual(repr(places), handed)
        if slowly is not None:
            self.assertEqual(bool(slowly()), wanted)


class StepCase(LookCase):
    def step(self, wanted, text, call, row, line, marks, *, ahead=(), told=(), behind=()):
        """A step behind others, in a list of steps and by a told list."""
        rows = rows_of(text)
        house = slow.House(rows)
        steps = [*ahead, (call, row, line, marks), *behind]
        number, told = len(ahead), [(other, list(found)) for other, found in told]
        with self.subTest(text=text, step=steps[number], told=told):
            self.look(wanted, step_holds, lambda: house.step_holds(dict(told), steps, number),
                      Program(rows), told, steps, number)

    def holds(self, *places, **names):
        self.step(True, *places, **names)

    def fails(self, *places, **names):
        self.step(False, *places, **names)


MIXED = """
    mode a(in, out)
    mode e(in, out)
    mode f(in)
    a(X, Y) <- e(X, Y)
    a(X, Z) <- e(X, Y), e(Y, Z)
    a(X, X) <- not f(X)
    a(X, Y) <- s(X) = f(Y)
    a(X, Y) <- X = s(Y)
    a(X, Y) <- Y is X + 1
    a(X, X) <- X < 3
    a(X, Y) <- Y in 1 .. X such Y =/= 2
    e(1, 2)
    e(2, 3)
"""
E12, E23 = ((e(1), (2,), 11, ()), (e(2), (3,), 12, ()))


class StepTest(StepCase):
    def test_facts(self):
        self.holds(MIXED, e(1), (2,), 11, ())
        self.fails(MIXED, e(1), (3,), 11, ())
        self.fails(MIXED, e(2), (2,), 11, ())
        self.fails(MIXED, e(1), (2,), 12, ())
        self.holds("mode k \n k", one("k"), (), 1, ())

    def test_a_relation_goal(self):
        self.holds(MIXED, a(1), (2,), 3, (0,), ahead=[E12])
        self.holds(MIXED, a(1), (2,), 3, (1,), ahead=[E23, E12])
        self.holds(MIXED, a(1), (3,), 4, (0, 1), ahead=[E12, E23])
        self.fails(MIXED, a(1), (3,), 4, (1, 0), ahead=[E12, E23])
        self.fails(MIXED, a(1), (2,), 3, (0,), ahead=[E23])
        self.fails(MIXED, a(1), (3,), 3, (0,), ahead=[E12])
        # The step that is named needs not hold itself, and may stand there in another mode's call.
        self.holds(MIXED, a(1), (9,), 3, (0,), ahead=[(e(1), (9,), HUGE, (None, 7))])
        self.fails(MIXED, a(1), (2,), 3, (0,), ahead=[(("e/2", "--", ()), (1, 2), 11, ())])
        self.fails(MIXED, a(1), (2,), 3, (0,), ahead=[(("e/2", "+-", (1, 2)), (2,), 11, ())])

    def test_a_row_that_the_goals_places_do_not_match(self):
        text = "mode a(in, out) \n mode e(in, out) \n a(X, Y) <- e(X, s(Y))"
        self.holds(text, a(1), (2,), 2, (0,), ahead=[(e(1), (("s", 2),), 0, ())])
        for row in ((2,), (("t", 2),), (("s", 2, 2),), (("s", 3),)):
            self.fails(text, a(1), (2,), 2, (0,), ahead=[(e(1), row, 0, ())])

    def test_marks_for_a_relation_goal(self):
        for mark in (-1, -2, 1, 2, 3, HUGE, -HUGE, (), (0,), (0, 0), None):
            self.fails(MIXED, a(1), (2,), 3, (mark,), ahead=[E12], behind=[E12, E12])
        # Its own step and a later one are no ground, also where they are of the call.
        text = "mode a(in, out) \n table a 2 \n a(X, Y) <- a(X, Y) \n a(1, 2)"
        self.holds(text, a(1), (2,), 2, (0,), ahead=[(a(1), (2,), 3, ())])
        self.fails(text, a(1), (2,), 2, (0,))
        self.fails(text, a(1), (2,), 2, (1,), behind=[(a(1), (2,), 3, ())])
        self.fails(text, a(1), (2,), 2, (-1,), behind=[(a(1), (2,), 3, ())])

    def test_a_not(self):
        self.holds(MIXED, a(1), (1,), 5, (None,), told=[(one("f", 1), [])])
        self.fails(MIXED, a(1), (1,), 5, (None,), told=[(one("f", 1), [()])])
        # Its call has to stand in the told list.
        self.fails(MIXED, a(1), (1,), 5, (None,))
        self.fails(MIXED, a(1), (1,), 5, (None,), told=[(one("f", 2), [])])
        text = "mode a(in, out) \n mode e(in, out) \n a(X, X) <- not e(X, s(Own, Own))"
        for row in ((2,), (("s", 1),), (("s", 1, 2),)):
            self.holds(text, a(1), (1,), 2, (None,), told=[(e(1), [row])])
        self.fails(text, a(1), (1,), 2, (None,), told=[(e(1), [(2,), (("s", 4, 4),)])])

    def test_a_likeness(self):
        self.holds(MIXED, a(("s", 4)), (4,), 7, (None,))
        self.fails(MIXED, a(("t", 4)), (4,), 7, (None,))
        self.fails(MIXED, a(("s", 4)), (5,), 7, (None,))
        self.fails(MIXED, a(4), (4,), 6, (None,))
        self.holds("mode a(in, out) \n a(X, Y) <- f(Y, 1) = f(X, 1)", a(4), (4,), 1, (None,))

    def test_a_reckoning_and_a_test(self):
        self.holds(MIXED, a(4), (5,), 8, (None,))
        self.fails(MIXED, a(4), (4,), 8, (None,))
        self.fails(MIXED, a("b"), ("b",), 8, (None,))
        self.holds(MIXED, a(2), (2,), 9, (None,))
        self.fails(MIXED, a(3), (3,), 9, (None,))
        self.fails(MIXED, a("b"), ("b",), 9, (None,))

    def test_a_mark_that_is_none_of_these_goals(self):
        told = [(one("f", 2), [])]
        for line, ins, row in ((5, 2, 2), (7, ("s", 4), 4), (8, 4, 5), (9, 2, 2)):
            self.holds(MIXED, a(ins), (row,), line, (None,), ahead=[E12], told=told)
            for mark in (0, -1, 1, HUGE, (), (0,), (1, 2)):
                self.fails(MIXED, a(ins), (row,), line, (mark,), ahead=[E12], told=told)

    def test_points(self):
        self.holds(MIXED, a(3), (1,), 10, ((1,),))
        self.holds(MIXED, a(3), (3,), 10, ((3,),))
        self.fails(MIXED, a(3), (2,), 10, ((2,),))
        for point in ((), (0,), (4,), (-1,), (2,), (1, 1), (1, 3), (HUGE,), (-HUGE,)):
            self.fails(MIXED, a(3), (1,), 10, (point,))
        # Outside the box, and one at which a test does not hold, though the row is what would come of it.
        for number in (0, -1, 4, 400, HUGE, -HUGE, 2):
            self.fails(MIXED, a(3), (number,), 10, ((number,),))
        for mark in (None, 1, 0, 3, HUGE):
            self.fails(MIXED, a(3), (1,), 10, (mark,), ahead=[E12, E12])
        self.fails(MIXED, a(0), (1,), 10, ((1,),))
        self.fails(MIXED, a("b"), (1,), 10, ((1,),))

    def test_points_of_several_ranges(self):
        text = "mode a(in, out) \n a(X, Y) <- X in 1 .. 3 and Y in 0 .. 2 such X < Y + 2"
        self.holds(text, a(2), (1,), 1, ((2, 1),))
        for point in ((1, 1), (2, 0), (3, 1), (2,), (2, 1, 1), (1, 2), (4, 1)):
            self.fails(text, a(2), (1,), 1, (point,))
        self.fails(text, a(4), (3,), 1, ((4, 3),))
        self.fails(text, a(2), (3,), 1, ((2, 3),))
        self.fails(text, a(0), (0,), 1, ((0, 0),))
        self.fails(text, a(1), (-1,), 1, ((1, -1),))
        # A range's unknown that is known already has to be what the point has.
        self.fails(text, a("b"), (1,), 1, ((2, 1),))
        self.fails("mode a(in, out) \n a(X, Y) <- Y in 1 .. 3 such Y < X", a("b"), (1,), 1, ((1,),))

    def test_a_clause_with_a_goal_of_each_kind(self):
        ahead = [(("n/2", "+-", (1,)), (2,), 3, ())]
        told = [(("n/2", "+-", (2,)), [])]
        marks = (0, None, None, None, None, (1,))
        self.holds(KINDS, a(1), (("f", 2, 3, 1),), 1, marks, ahead=ahead, told=told)
        for at in range(6):
            for mark in {0, 1, None, (1,), (2,), (3,), ()} - {marks[at]}:
                if (at, mark) != (5, (3,)):
                    other = (*marks[:at], mark, *marks[at + 1:])
                    self.fails(KINDS, a(1), (("f", 2, 3, 1),), 1, other, ahead=ahead, told=told)
        self.holds(KINDS, a(1), (("f", 2, 3, 3),), 1, (*marks[:5], (3,)), ahead=ahead, told=told)
        self.fails(KINDS, a(1), (("f", 2, 3, 3),), 1, marks, ahead=ahead, told=told)

    def test_too_many_and_too_few_marks(self):
        for marks in ((), (0, None), (0, 0), (0, (1,)), (0,) * 100):
            self.fails(MIXED, a(1), (2,), 3, marks, ahead=[E12])
        for marks in ((None,), (0,), ((),)):
            self.fails(MIXED, e(1), (2,), 11, marks)
        self.fails(MIXED, a(1), (3,), 4, (0,), ahead=[E12, E23])
        self.fails(MIXED, a(1), (3,), 4, (0, 1, 1), ahead=[E12, E23])

    def test_lines(self):
        self.holds("mode a \n a \n mode b \n b", one("a"), (), 1, ())
        # No clause's, another relation's, any size.
        for line in (0, 2, 3, 4, 5, -1, -3, 60, BIG, HUGE, -HUGE):
            self.fails("mode a \n a \n mode b \n b", one("a"), (), line, ())
        text = "mode b(in) \n mode b(in, in) \n b(1) \n b(1, 1)"
        self.holds(text, one("b", 1), (), 2, ())
        self.fails(text, one("b", 1), (), 3, ())
        self.fails(text, one("b", 1, 1), (), 2, ())

    def test_calls_that_are_refused_elsewhere(self):
        text = TEXT + "\n table lone 2"
        self.holds(text, p("a"), (1,), 1, ())
        for call in NO_CALLS:
            for line in (1, 3, 9):
                self.fails(text, call, (1,) * call[1].count("-"), line, ())

    def test_rows_with_one_term_otherwise(self):
        text = "mode a(in, out, out, out) \n a(X, X, s(Y), 3) <- Y is X + 1"
        call = ("a/4", "+---", (1,))
        self.holds(text, call, (1, ("s", 2), 3), 1, (None,))
        for row in ((2, ("s", 2), 3), (1, ("s", 1), 3), (1, ("s", 2), 4), (1, ("t", 2), 3), ("1", ("s", 2), 3)):
            self.fails(text, call, row, 1, (None,))

    def test_heads(self):
        text = "mode a(in, in) \n a(X, s(X))"
        self.holds(text, one("a", 1, ("s", 1)), (), 1, ())
        self.fails(text, one("a", 1, ("s", 2)), (), 1, ())
        self.fails(text, one("a", 1, 1), (), 1, ())


class NumberTest(LookCase):
    def test_the_number_asked_for(self):
        program = program_of(MIXED)
        steps = [E12, E23, (a(1), (3,), 4, (0, 1))]
        for number, wanted in ((0, True), (1, True), (2, True), (3, False), (4, False), (-1, False), (-3, False),
                               (HUGE, False), (-HUGE, False)):
            self.look(wanted, step_holds, None, program, [], steps, number)
        for number in (0, 1, -1):
            self.look(False, step_holds, None, program, [], [], number)

    def test_numbers_that_python_would_not_write(self):
        vast, program = 10 ** 5000, program_of(MIXED)
        for step in ((a(1), (2,), vast, ()), (a(1), (2,), 3, (vast,)), (a(3), (1,), 10, ((vast,),))):
            self.assertIs(step_holds(program, [], [step, step], 1), False)
            self.assertIs(step_holds(program, [], [E12, step], -vast), False)
            self.assertIs(warrant_holds(program, e(1), ([(e(1), [(2,)])], [step])), False)
        self.assertIs(step_holds(program, [], [E12], vast), False)

    def test_a_step_is_looked_at_by_itself(self):
        steps = [(e(1), (9,), 11, ()), (a(1), (9,), 3, (0,)), (e(1), (2,), 3, (7, None))]
        for number, wanted in ((0, False), (1, True), (2, False)):
            self.look(wanted, step_holds, None, program_of(MIXED), [], steps, number)


class OpenStepTest(StepCase):
    """What Open would refuse on a step's road: False, never a refusal."""

    def both(self, text, let_by, refused):
        """Steps by the clause in line 3 of a text; triples (ins, row, names)."""
        modes = "mode a(in, out) \n mode e(in, out) \n mode f(in) \n"
        for wanted, cases in ((True, let_by), (False, refused)):
            for ins, row, marks, names in cases:
                self.step(wanted, modes + text, a(ins), row, 3, marks, **names)

    def test_the_ins_of_calls(self):
        def case(term):
            return term, (1,), (0,), {"ahead": [(e(("s", term)), (1,), 0, ())]}
        self.both("a(X, Y) <- e(s(X), Y)", [case(flat(59)), case(tower(11))], [case(flat(60)), case(tower(12))])

        def barred(term):
            return term, (1,), (None,), {"told": [(one("f", ("s", term)), [])]}
        self.both("a(X, 1) <- not f(s(X))", [barred(flat(59)), barred(tower(11))],
                  [barred(flat(60)), barred(tower(12))])

    def test_the_known_side_of_a_likeness(self):
        let_by, refused = [[(term, (1,), (None,), {}) for term in terms]
                           for terms in ((flat(59), tower(11)), (flat(60), tower(12)))]
        self.both("a(X, 1) <- s(X) = Y", let_by, refused)
        self.both("a(X, 1) <- Y = s(X)", let_by, refused)

    def test_the_terms_of_the_row(self):
        let_by, refused = [[(term, (("s", term),), (), {}) for term in terms]
                           for terms in ((flat(59), tower(11)), (flat(60), tower(12)))]
        self.both("a(X, s(X))", let_by, refused)

    def test_a_row_whose_terms_together_are_greater_is_let_by(self):
        text = "mode a(in, out, out, out) \n a(X, s(X), s(X), X)"
        term = flat(59)
        self.holds(text, ("a/4", "+---", (term,)), (("s", term), ("s", term), term), 1, ())
        self.fails(text, ("a/4", "+---", (flat(60),)), (("s", flat(60)), ("s", flat(60)), flat(60)), 1, ())

    def test_figures(self):
        self.both("a(X, Y) <- Y is X + 1", [(BIG - 1, (BIG,), (None,), {})], [(BIG, (BIG + 1,), (None,), {})])
        self.both("a(X, Y) <- Y is X - 1", [(1 - BIG, (-BIG,), (None,), {})], [(-BIG, (-BIG - 1,), (None,), {})])
        self.both("a(X, X) <- X * X < X * X + 1", [(BIG, (BIG,), (None,), {})], [])

    def test_fields(self):
        self.both("a(X, Y) <- Y in 1 .. X", [(400, (1,), ((1,),), {}), (400, (400,), ((400,),), {})],
                  [(401, (1,), ((1,),), {})])
        self.both("a(X, Y) <- Y in X + 1 .. 9", [(-BIG, (9,), ((9,),), {}), (8, (9,), ((9,),), {})][1:],
                  [(-BIG, (9,), ((9,),), {}), (BIG, (9,), ((9,),), {})])


# Two floors, a table, and a not.
FLOORS = """
    mode a(in, out)
    mode b(in, out)
    mode t(in, out)
    table t 2
    mode e(in, out)
    mode f(in)
    a(X, Y) <- b(X, Y), not f(Y)
    a(X, X)
    b(X, Y) <- t(X, Y)
    t(X, Z) <- t(X, Y), e(Y, Z)
    t(X, Y) <- e(X, Y)
    e(1, 3)
    e(1, 2)
    e(2, 1)
    e(3, 9)
    f(9)
"""


def b(*ins):
    return ("b/2", "+-", ins)


def t(*ins):
    return ("t/2", "+-", ins)


class PaperCase(LookCase):
    def warrant(self, wanted, text, call, paper):
        rows = rows_of(text) if isinstance(text, str) else text
        with self.subTest(text=text, call=call, paper=paper):
            self.look(wanted, warrant_holds, lambda: slow.House(rows).warrant_holds(call, paper),
                      Program(rows), call, paper)

    def turn(self, wanted, text, call, paper):
        rows = rows_of(text) if isinstance(text, str) else text
        with self.subTest(text=text, call=call, paper=paper):
            self.look(wanted, turn_holds, lambda: slow.House(rows).turn_holds(call, paper), Program(rows), call, paper)


class WarrantTest(PaperCase):
    def setUp(self):
        self.book, self.steps = warrant_of(program_of(FLOORS), a(1))

    def both(self, wanted, book=None, steps=None):
        self.warrant(wanted, FLOORS, a(1),
                     (self.book if book is None else book, self.steps if steps is None else steps))

    def changed(self, call, rows):
        """The book with other rows for a call."""
        return [(other, rows if other == call else found) for other, found in self.book]

    def test_the_told_one(self):
        self.assertEqual(dict(self.book)[a(1)], [(1,), (2,), (3,)])
        self.assertEqual(dict(self.book)[t(1)], [(1,), (2,), (3,), (9,)])
        self.assertEqual(dict(self.book)[e(1)], [(3,), (2,)])
        self.both(True)
        for call, _ in self.book:
            self.warrant(True, FLOORS, call, (self.book, self.steps))

    def test_a_call_that_is_missing(self):
        for at in range(len(self.book)):
            self.both(False, self.book[:at] + self.book[at + 1:])
        self.warrant(False, FLOORS, a(2), (self.book, self.steps))
        self.warrant(False, FLOORS, ("zz/1", "+", (1,)), (self.book, self.steps))
        self.warrant(False, FLOORS, a(1), ([], []))

    def test_a_call_that_stands_twice(self):
        for at in range(len(self.book)):
            self.both(False, [*self.book, self.book[at]])
            self.both(False, [self.book[at], *self.book])

    def test_a_call_that_is_refused_elsewhere(self):
        for call in (("zz/1", "+", (1,)), ("a/2", "-+", (1,)), ("a/2", "+-", ()), ("a/2", "+-", (1, 2)), ("", "", ())):
            self.both(False, [*self.book, (call, [])])
            self.warrant(False, FLOORS, call, ([(call, [])], []))
        for call in NO_CALLS:
            self.warrant(False, TEXT + "\n table lone 2", call, ([(call, [])], []))
        self.warrant(True, TEXT + "\n table lone 2", p("z"), ([(e("z"), []), (p("z"), [(7,)])], []))

    def test_more_and_fewer_rows_and_rows_twice(self):
        for call, rows in self.book:
            for at in range(len(rows)):
                self.both(False, self.changed(call, rows[:at] + rows[at + 1:]))
                self.both(False, self.changed(call, [*rows, rows[at]]))
            self.both(False, self.changed(call, [*rows, tuple([7] * call[1].count("-"))]))

    def test_rows_in_another_order(self):
        # As they come for calls that are not tabled, in order for tabled ones.
        for call, rows in self.book:
            if len(rows) > 1:
                self.both(False, self.changed(call, rows[::-1]))
                self.both(False, self.changed(call, [*rows[1:], rows[0]]))
        text = "mode a(out) \n {} \n a(2) \n a(1)"
        call, steps = ("a/1", "-", ()), [(("a/1", "-", ()), (2,), 2, ()), (("a/1", "-", ()), (1,), 3, ())]
        for table, wanted in (("", [True, False]), ("table a 1", [False, True])):
            if not table:
                steps_here = [(*step[:2], step[2] - 1, step[3]) for step in steps]
            else:
                steps_here = steps
            for rows, each in zip(([(2,), (1,)], [(1,), (2,)]), wanted):
                self.warrant(each, text.format(table), call, ([(call, rows)], steps_here))

    def test_calls_met_that_are_not_in_the_book(self):
        text = "mode a \n mode b \n mode c \n a \n a <- b \n a <- not c"
        book = [(one("b"), []), (one("c"), []), (one("a"), [()])]
        self.warrant(True, text, one("a"), (book, []))
        self.warrant(False, text, one("a"), (book[1:], []))
        self.warrant(False, text, one("a"), ([book[0], book[2]], []))
        self.warrant(True, text, one("b"), (book[:1], []))

    def test_calls_met_that_stand_behind(self):
        text = "mode a \n mode b \n {} \n a \n a <- b \n b \n mode n \n n <- not a"
        ahead, behind = [[(one(name), [()]) for name in names] for names in ("ba", "ab")]
        self.warrant(True, text.format(""), one("a"), (ahead, []))
        self.warrant(False, text.format(""), one("a"), (behind, []))
        # A tabled call may stand behind, and what a tabled one meets, too.
        steps = [(one("b"), (), 5, ())]
        self.warrant(True, text.format("table b 0"), one("a"), (ahead, steps))
        self.warrant(True, text.format("table b 0"), one("a"), (behind, steps))
        steps = [(one("a"), (), 3, ())]
        self.warrant(True, text.format("table a 0"), one("a"), (behind, steps))
        # Of a not likewise.
        self.warrant(True, text.format(""), one("n"), ([*ahead, (one("n"), [])], []))
        self.warrant(False, text.format(""), one("n"), ([(one("n"), []), *ahead], []))

    def test_a_call_that_meets_itself(self):
        text = "mode a \n {} \n a \n a <- a"
        self.warrant(False, text.format(""), one("a"), ([(one("a"), [()])], []))
        self.warrant(True, text.format("table a 0"), one("a"), ([(one("a"), [()])], [(one("a"), (), 2, ())]))

    def test_rows_that_come_of_themselves(self):
        text = "mode a(out) \n table a 1 \n a(X) <- a(X) \n a(1)"
        call = ("a/1", "-", ())
        ground = (call, (1,), 3, ())
        self.warrant(True, text, call, ([(call, [(1,)])], [ground]))
        self.warrant(True, text, call, ([(call, [(1,)])], [ground, (call, (1,), 2, (0,))]))
        self.warrant(False, text, call, ([(call, [(1,), (2,)])], [ground, (call, (2,), 2, (1,))]))
        self.warrant(False, text, call, ([(call, [(1,), (2,)])], [ground, (call, (2,), 2, (0,))]))
        self.warrant(False, text, call, ([(call, [(1,), (2,)])], [ground]))

    def test_steps_that_do_not_hold_or_are_not_of_the_book(self):
        for step in ((a(1), (9,), 6, (0, None)), (a(1), (1,), 6, (0, None)), (a(2), (2,), 7, ()), (e(9), (2,), 11, ()),
                     (a(1), (1,), 8, ()), (a(1), (1,), HUGE, ()), (("zz/0", "", ()), (), 7, ()),
                     (a(1), (1,), 7, (None,))):
            self.both(False, steps=[*self.steps, step])
        self.both(True, steps=[*self.steps, (a(1), (1,), 7, ())])
        # A step of a call that the book does not have would hold by itself.
        self.assertTrue(step_holds(program_of(FLOORS), self.book, [(a(2), (2,), 7, ())], 0))

    def test_rows_without_steps(self):
        text = "mode a(out) \n {} \n a(1) \n a(2)"
        call = ("a/1", "-", ())
        book, steps = [(call, [(1,), (2,)])], [(call, (1,), 2, ()), (call, (2,), 3, ())]
        self.warrant(True, text.format("table a 1"), call, (book, steps))
        for some in (steps[:1], steps[1:], []):
            self.warrant(False, text.format("table a 1"), call, (book, some))
        # Of a call that is not tabled no row needs a step.
        text = "mode a(out) \n mode z \n a(1) \n a(2)"
        for some in (steps, steps[:1], steps[1:], []):
            self.warrant(True, text, call, (book, some))

    def test_two_steps_of_one_row(self):
        self.both(True, steps=[*self.steps, *self.steps])
        twice = [step for step in self.steps for _ in range(2) if not step[3]]
        self.warrant(True, FLOORS, e(1), ([pair for pair in self.book if pair[0] == e(1)],
                                          [step for step in twice if step[0] == e(1)]))

    def test_just_two_hundred_ways_and_one_more(self):
        text = "mode a(in) \n mode z \n a(X) <- Y in 1 .. X, 1 < 0 \n a(0)"
        for ins, wanted in ((199, True), (200, True), (201, False), (400, False), (401, False)):
            self.warrant(wanted, text, one("a", ins), ([(one("a", ins), [])], []))
        for text, wanted in (("mode a \n a <- X in 1 .. 100, 1 < 2", True),
                             ("mode a \n a <- X in 1 .. 101, 1 < 2", False)):
            self.warrant(wanted, text, one("a"), ([(one("a"), [()])], []))

    def test_walks_that_open_refuses(self):
        text = "mode a(in, out) \n a(X, s(X)) \n a(X, X) <- Y is X + 1"
        self.warrant(True, text, a(3), ([(a(3), [(("s", 3),), (3,)])], []))
        self.warrant(False, text, a(BIG), ([(a(BIG), [(("s", BIG),), (BIG,)])], []))
        self.warrant(False, text, a(flat(60)), ([(a(flat(60)), [(("s", flat(60)),)])], []))
        self.warrant(True, text, a(flat(59)), ([(a(flat(59)), [(("s", flat(59)),)])], []))

    def test_a_book_of_more_calls_in_another_order(self):
        program = program_of(FLOORS)
        more, more_steps = warrant_of(program, a(2))
        book = self.book + [pair for pair in more if pair[0] not in dict(self.book)]
        self.assertGreater(len(book), len(self.book))
        steps = self.steps + [(*step[:3], tuple([mark if mark is None else mark + len(self.steps) for mark in step[3]]))
                              for step in more_steps]
        for call in (a(1), a(2), e(1)):
            self.warrant(True, FLOORS, call, (book, steps))
        tabled = [pair for pair in book if pair[0][0] == "t/2"]
        others = [pair for pair in book if pair[0][0] != "t/2"]
        self.warrant(True, FLOORS, a(1), (others + tabled, steps))
        self.warrant(False, FLOORS, a(1), (others[::-1] + tabled, steps))
        # A book of more things than a lot may have.
        text = "mode a(in, out) \n a(X, X) \n mode b(in, in) \n b(X, X)"
        book = [(a(number), [(number,)]) for number in range(250)]
        self.warrant(True, text, a(1), (book, []))

    def test_nots(self):
        text = "mode a \n mode b \n a <- not b \n b <- X in 2 .. 1"
        self.warrant(True, text, one("a"), ([(one("b"), []), (one("a"), [()])], []))
        self.warrant(False, text, one("a"), ([(one("b"), [()]), (one("a"), [])], []))
        self.warrant(False, text, one("a"), ([(one("b"), []), (one("a"), [])], []))

    def test_what_told_warrants_promise(self):
        """[53]: where a warrant holds the verdict is not "round", and the rows are the answers."""
        program = program_of(FLOORS)
        for call, rows in self.book:
            self.assertEqual(verdict_of(program, call), "book")
            self.assertEqual(dict(book_of(program, call))[call], rows)


TURNING = """
    mode a(in, out)
    mode b(in, out)
    mode e(in, out)
    a(X, Y) <- e(X, Z), b(Z, Y)
    a(X, end)
    b(X, Y) <- e(X, Z), b(Z, Y)
    b(X, X)
    e(1, 2)
    e(2, 3)
    e(3, 2)
"""


class TurnTest(PaperCase):
    def setUp(self):
        self.lot, self.steps, self.ring = turn_of(program_of(TURNING), a(1))

    def both(self, wanted, lot=None, steps=None, ring=None):
        paper = (self.lot if lot is None else lot, self.steps if steps is None else steps,
                 self.ring if ring is None else ring)
        self.turn(wanted, TURNING, a(1), paper)

    def test_the_told_one(self):
        self.both(True)
        self.assertEqual(self.ring[0], a(1))

    def test_rings(self):
        self.both(True, ring=[a(1), b(2), b(3), b(2)])
        self.both(True, ring=[a(1), b(2), b(3), b(2), b(3)])
        self.both(True, ring=[a(1)] + [b(2), b(3)] * 500)
        # One call, none; another first call.
        for ring in ([a(1)], [], [b(2), b(3), b(2)], [a(2), b(2), b(3), b(2)]):
            self.both(False, ring=ring)
        # A next call that is not met; the last call at no earlier place.
        for ring in ([a(1), b(3), b(2), b(3)], [a(1), a(1)], [a(1), b(2), b(2)], [a(1), b(2), a(1)],
                     [a(1), b(2)], [a(1), b(2), b(3)], [a(1), e(1)], [a(1), e(1), e(1)], [a(1), ("zz", "", ()), a(1)]):
            self.both(False, ring=ring)

    def test_a_ring_of_two(self):
        text = "mode a \n a <- a \n a"
        lot, steps = [(one("a"), [()])], [(one("a"), (), 2, ())]
        self.turn(True, text, one("a"), (lot, steps, [one("a"), one("a")]))
        self.turn(True, text, one("a"), (lot, steps, [one("a")] * 3))
        for ring in ([one("a")], []):
            self.turn(False, text, one("a"), (lot, steps, ring))
        self.turn(False, text + "\n table a 0", one("a"), (lot, steps, [one("a"), one("a")]))

    def test_tabled_calls_on_the_way_and_within_the_ring(self):
        text = "mode a \n mode b \n mode c \n {} \n a <- b \n b <- c \n c <- c"
        lot = [(one(name), []) for name in "abc"]
        ring = [one("a"), one("b"), one("c"), one("c")]
        self.turn(True, text.format(""), one("a"), (lot, [], ring))
        for table in ("table a 0", "table b 0", "table a 0 \n table b 0"):
            self.turn(True, text.format(table), one("a"), (lot, [], ring))
        for table in ("table c 0", "table a 0 \n table c 0"):
            self.turn(False, text.format(table), one("a"), (lot, [], ring))
        # The way behind the last place at which the last call stands counts alone.
        text = "mode a \n {} \n mode c(in) \n a <- c(1) \n c(X) <- c(X) \n c(X) <- Y is 3 - X, c(Y)"
        lot = [(one("a"), []), (one("c", 1), []), (one("c", 2), [])]
        self.turn(True, text.format("table a 0"), one("a"), (lot, [], [one("a")] + [one("c", 1)] * 3))

    def test_calls_and_rows(self):
        for at in range(len(self.lot)):
            self.both(False, lot=self.lot[:at] + self.lot[at + 1:])
            self.both(False, lot=[*self.lot, self.lot[at]])
            call, rows = self.lot[at]
            for where in range(len(rows)):
                self.both(False, lot=[*self.lot[:at], (call, rows[:where] + rows[where + 1:]), *self.lot[at + 1:]])
                self.both(False, lot=[*self.lot[:at], (call, [*rows, rows[where]]), *self.lot[at + 1:]])
            self.both(False, lot=[*self.lot[:at], (call, [*rows, ("zz",)]), *self.lot[at + 1:]])
        for call in (("zz/1", "+", (1,)), ("a/2", "-+", (1,)), ("a/2", "+-", ())):
            self.both(False, lot=[*self.lot, (call, [])])
            self.turn(False, TURNING, call, (self.lot, self.steps, [call, *self.ring[1:]]))

    def test_rows_are_in_order_and_calls_in_any(self):
        self.both(True, lot=self.lot[::-1])
        turned = [(call, rows[::-1]) for call, rows in self.lot]
        self.assertNotEqual(turned, self.lot)
        self.both(False, lot=turned)

    def test_more_calls_than_the_lot(self):
        lot, steps, ring = turn_of(program_of(TURNING), a(2))
        both = self.lot + [pair for pair in lot if pair[0] not in dict(self.lot)]
        moved = [(*step[:3], tuple([mark if mark is None else mark + len(self.steps) for mark in step[3]]))
                 for step in steps]
        self.both(True, lot=both, steps=self.steps + moved)
        self.turn(True, TURNING, a(2), (both, self.steps + moved, ring))
        self.turn(False, TURNING, a(3), (both, self.steps + moved, self.ring))

    def test_each_row_of_each_call_has_a_step(self):
        self.both(False, steps=[])
        self.both(False, steps=self.steps[:-1])
        self.both(True, steps=self.steps + self.steps[:1])
        text = "mode a \n a <- a \n a \n mode b \n table b 0 \n b <- a"
        lot, ring = [(one("a"), [()]), (one("b"), [()])], [one("b"), one("a"), one("a")]
        steps = [(one("a"), (), 2, ()), (one("b"), (), 5, (0,))]
        self.turn(True, text, one("b"), (lot, steps, ring))
        self.turn(False, text, one("b"), (lot, steps[:1], ring))
        self.turn(False, text, one("b"), (lot, [(one("b"), (), 5, (0,))], ring))

    def test_steps_that_do_not_hold_or_are_not_of_the_lot(self):
        for step in ((a(1), (1,), 4, ()), (a(2), ("end",), 4, ()), (e(1), (3,), 7, ()), (a(1), ("end",), 3, (0, 0))):
            self.both(False, steps=[*self.steps, step])
        self.both(True, steps=[*self.steps, (a(1), ("end",), 4, ())])

    def test_walks_that_are_refused_or_meet_what_is_not_there(self):
        text = "mode a(in) \n a(X) <- a(X) \n a(X) <- Y in 1 .. X, 1 < 0"
        for ins, wanted in ((199, True), (200, True), (201, False), (401, False)):
            self.turn(wanted, text, one("a", ins), ([(one("a", ins), [])], [], [one("a", ins)] * 2))
        text = "mode a \n mode b \n a <- a \n a <- b"
        self.turn(True, text, one("a"), ([(one("a"), []), (one("b"), [])], [], [one("a")] * 2))
        self.turn(False, text, one("a"), ([(one("a"), [])], [], [one("a")] * 2))

    def test_nots_on_the_way(self):
        text = "mode a \n mode b \n a <- not b \n b <- b"
        lot = [(one("a"), [()]), (one("b"), [])]
        self.turn(True, text, one("a"), (lot, [(one("a"), (), 2, (None,))], [one("a"), one("b"), one("b")]))
        self.turn(False, text, one("a"), (lot, [], [one("a"), one("b"), one("b")]))


class ChanceTest(PaperCase):
    """Told papers hold, and papers with a thing changed hold just where the slow reading says so."""

    def test_told_papers_and_changed_ones(self):
        seen = {}
        for maker in programs(range(2000, 2260)):
            house = slow.House(maker.rows)
            if house.refusal is None:
                for call in maker.calls(2):
                    self.look_at(maker, house, call, seen)
        self.assertEqual(sorted(seen), [("book", False), ("book", True), ("round", False), ("round", True)])

    def look_at(self, maker, house, call, seen):
        program, verdict = Program(maker.rows), house.verdict(call)
        if verdict == "open":
            return
        told = warrant_of if verdict == "book" else turn_of
        holds, slowly = ((warrant_holds, house.warrant_holds) if verdict == "book" else (turn_holds, house.turn_holds))
        paper = told(program, call)
        self.assertTrue(holds(program, call, paper))
        for other in [paper] + [self.other(maker.random, paper) for _ in range(6)]:
            wanted = bool(slowly(call, other))
            self.assertIs(holds(program, call, other), wanted)
            seen[verdict, wanted] = True

    def other(self, random, paper):
        """The paper with one thing left out, put in again, exchanged or turned."""
        parts = [list(part) for part in paper]
        at = random.randrange(len(parts))
        part = parts[at]
        if not part:
            return tuple(parts)
        where = random.randrange(len(part))
        kind = random.choice(["cut", "twice", "swap", "deeper"])
        if kind == "cut":
            part.pop(where)
        elif kind == "twice":
            part.insert(random.randrange(len(part) + 1), part[where])
        elif kind == "swap":
            other = random.randrange(len(part))
            part[where], part[other] = part[other], part[where]
        elif at == 0:
            call, rows = part[where]
            part[where] = (call, rows[::-1] if len(rows) > 1 else rows[:-1])
        elif at == 1:
            call, row, line, marks = part[where]
            marks = tuple(None if mark is None else mark - 1 if isinstance(mark, int) else mark[:-1] for mark in marks)
            part[where] = (call, row, line if marks else line + 1, marks)
        return tuple(parts)

    def test_grounds(self):
        for maker in programs(range(2300, 2400)):
            if slow.House(maker.rows).refusal is None:
                program = Program(maker.rows)
                for call in maker.calls(2):
                    if verdict_of(program, call) != "open":
                        lot = lot_of(program, call)
                        for row in dict(lot)[call][:3]:
                            steps = grounds_of(program, call, row)
                            for number in range(len(steps)):
                                self.assertTrue(step_holds(program, lot, steps, number))


class LongTest(PaperCase):
    """Long but promised inputs end in seconds."""

    def test_books_and_steps_near_two_hundred(self):
        began = time.monotonic()
        facts = "\n".join(f"a(f({number}))" for number in range(56))
        for table in ("", "table a 1"):
            program = program_of(f"{DOWN} \n {table} \n {facts}")
            self.assertTrue(warrant_holds(program, one("a", 98), warrant_of(program, one("a", 98))))
        text = "mode a(out) \n table a 1 \n a(0) \n a(Y) <- a(X), Y is X + 1, Y < 48"
        program = program_of(text)
        self.assertTrue(warrant_holds(program, ("a/1", "-", ()), warrant_of(program, ("a/1", "-", ()))))
        test = "X * X * X - 3 * X * X + 7 * X =/= A and X * X == A"
        fields = "\n".join(f"a(A, X) <- X in {number} .. {number + 399} such {test}" for number in range(58))
        program = program_of(f"mode a(in, out) \n {fields}")
        paper = warrant_of(program, a(169))
        self.assertTrue(warrant_holds(program, a(169), paper))
        self.assertTrue(warrant_holds(program, a(169), (paper[0], paper[1] * 100)))
        program = program_of(RING)
        lot, steps, ring = turn_of(program, p("a"))
        ring = ring + ring[1:] * 5000
        self.assertIs(turn_holds(program, p("a"), (lot, steps, ring)), True)
        self.assertLess(time.monotonic() - began, 20)


if __name__ == "__main__":
    unittest.main()
