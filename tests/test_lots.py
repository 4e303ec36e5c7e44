"""[44] to [47]: lots, their things, what leads to what, and the three verdicts."""

import unittest

from goalstead.errors import NoCall, Open
from goalstead.lots import leads_of, lot_of, verdict_of
from goalstead.program import Program
from tests import slow
from tests.chance import programs
from tests.helpers import Case, program_of, rows_of
from tests.test_walks import NO_CALLS, TEXT

BIG = 10 ** 60 - 1

PATHS = """
    mode e(in, out)
    e(a, b)
    e(b, c)
    mode p(in, out)
    p(X, Y) <- e(X, Y)
    p(X, Z) <- e(X, Y), p(Y, Z)
"""


def e(term):
    return ("e/2", "+-", (term,))


def p(term):
    return ("p/2", "+-", (term,))


def one(name, *ins):
    """A call whose places are all told."""
    return (f"{name}/{len(ins)}", "+" * len(ins), ins)


def things_of(rows, call):
    """How many things a call's lot has."""
    house = slow.House(rows)
    lot = house.lot(call, 10 ** 6)
    ways = sum(house.walk(other, lambda one: lot.get(one, []))[2] for other in lot)
    return len(lot) + sum(len(found) for found in lot.values()) + ways


class LotCase(Case):
    def lot(self, wanted, text, call):
        with self.subTest(text=text, call=call):
            told = lot_of(program_of(text), call)
            self.assertEqual(told, wanted)
            self.assertEqual(list(slow.House(rows_of(text)).lot(call).items()), wanted)

    def calls(self, wanted, text, call):
        with self.subTest(text=text, call=call):
            self.assertEqual([other for other, _ in lot_of(program_of(text), call)], wanted)

    def verdict(self, wanted, text, call, **most):
        with self.subTest(text=text, call=call, most=most):
            program = program_of(text)
            self.assertEqual(verdict_of(program, call, **most), wanted)
            if wanted == "open":
                for function in (lot_of, leads_of):
                    for _ in range(2):
                        self.assert_refused(Open, {}, function, program, call, **most)
            else:
                self.assertEqual(len(lot_of(program, call, **most)), len(leads_of(program, call, **most)))


class LotTest(LotCase):
    def test_calls_in_order_and_rows_in_order(self):
        wanted = [(e("a"), [("b",)]), (e("b"), [("c",)]), (e("c"), []),
                  (p("a"), [("b",), ("c",)]), (p("b"), [("c",)]), (p("c"), [])]
        self.lot(wanted, PATHS, p("a"))
        self.lot([(e("c"), []), (p("c"), [])], PATHS, p("c"))
        self.lot([(e("b"), [("c",)])], PATHS, e("b"))

    def test_rows_each_once_and_brought_in_order(self):
        text = "mode a(out) \n a(s(1)) \n a(b) \n a(2) \n a(b) \n a(1) \n a(a) \n a(1)"
        self.lot([(("a/1", "-", ()), [(1,), (2,), ("a",), ("b",), (("s", 1),)])], text, ("a/1", "-", ()))

    def test_tabled_or_not_the_lot_is_the_same(self):
        ring = PATHS.replace("e(b, c)", "e(b, a)")
        wanted = [(e("a"), [("b",)]), (e("b"), [("a",)]), (p("a"), [("a",), ("b",)]), (p("b"), [("a",), ("b",)])]
        self.lot(wanted, ring, p("a"))
        self.lot(wanted, ring + "table p 2", p("a"))
        self.lot(wanted, ring + "table p 2 \n table e 2", p("a"))

    def test_a_call_that_leads_to_itself_first(self):
        text = "mode a(in, out) \n a(X, Y) <- a(X, Z), Y is Z + 1, Y < 4 \n a(X, X) \n table a 2"
        self.lot([(("a/2", "+-", (1,)), [(1,), (2,), (3,)])], text, ("a/2", "+-", (1,)))

    def test_one_relation_in_two_modes(self):
        text = "mode a(in, out) \n mode a(out, out) \n a(1, 2) \n a(2, 3) \n mode b(out) \n b(Z) <- a(X, Y), a(Y, Z)"
        self.lot([(("a/2", "+-", (2,)), [(3,)]), (("a/2", "+-", (3,)), []),
                  (("a/2", "--", ()), [(1, 2), (2, 3)]), (("b/1", "-", ()), [(3,)])], text, ("b/1", "-", ()))

    def test_told_lists_are_new_ones_each_time(self):
        program = program_of(PATHS)
        for function in (lot_of, leads_of):
            self.assert_new_each_time(function, program, p("a"))
            told = function(program, p("a"))
            kept = function(program, p("a"))
            for _, found in told:
                found.append("mine")
            self.assertEqual(function(program, p("a")), kept)


class NotTest(LotCase):
    def test_rows_of_a_nots_call_are_finished_first(self):
        text = """
            mode p(in)
            mode q(in)
            mode r(in)
            p(X) <- not q(X)
            q(X) <- r(X)
            r(X) <- X = 1
        """
        self.lot([(one("p", 1), []), (one("q", 1), [()]), (one("r", 1), [()])], text, one("p", 1))
        self.lot([(one("p", 2), [()]), (one("q", 2), []), (one("r", 2), [])], text, one("p", 2))

    def test_behind_a_not_nothing_is_looked_at_until_then(self):
        text = """
            mode p(in)
            mode q(in)
            mode r(in)
            mode s(in)
            p(X) <- not q(X), s(X)
            q(X) <- r(X)
            r(1)
            s(X) <- Y is X + 1, s(Y)
        """
        # With q(1) unfinished the way would go on to s(1), whose lot has no end.
        self.lot([(one("p", 1), []), (one("q", 1), [()]), (one("r", 1), [()])], text, one("p", 1))
        self.verdict("book", text, one("p", 1))
        self.verdict("open", text, one("p", 2))

    def test_behind_several_nots(self):
        text = """
            mode p(in)
            mode q(in)
            mode s(in)
            p(X) <- not q(1), not s(X)
            p(X) <- not q(X), not q(2), X in 1 .. 401
            q(X) <- X < 2, 0 < X
            s(X) <- X in 1 .. 999
        """
        self.calls([one("p", 1), one("q", 1)], text, one("p", 1))
        self.verdict("book", text, one("p", 1))
        self.verdict("open", text, one("p", 3))

    def test_nots_one_above_the_other(self):
        text = """
            mode w(in)
            mode e(in, out)
            table w 1
            e(1, 2)
            e(2, 3)
            e(3, 4)
            mode a(in)
            mode b(in)
            mode c(in)
            a(X) <- e(X, Y), not b(Y)
            b(X) <- e(X, Y), not c(Y)
            c(X) <- e(X, Y), not w(Y)
            w(4)
        """
        wanted = [one("a", 1), one("b", 2), one("c", 3), e(1), e(2), e(3), one("w", 4)]
        self.calls(wanted, text, one("a", 1))
        rows = dict(lot_of(program_of(text), one("a", 1)))
        self.assertEqual([rows[one(*call)] for call in (("w", 4), ("c", 3), ("b", 2), ("a", 1))], [[()], [], [()], []])

    def test_a_nots_call_that_is_asked_for_otherwise_too(self):
        text = """
            mode p(in, out)
            mode q(in, out)
            mode r(in, out)
            table q 2
            p(X, Y) <- r(X, Y), not q(X, Y)
            p(X, Y) <- q(X, Y)
            q(X, Y) <- q(X, Z), r(Z, Y)
            q(X, Y) <- r(X, Y)
            r(1, 2)
            r(2, 3)
            r(3, 1)
        """
        rows = dict(lot_of(program_of(text), p(1)))
        self.assertEqual(rows[p(1)], [(1,), (2,), (3,)])
        self.assertEqual(rows[("q/2", "+-", (1,))], [(1,), (2,), (3,)])

    def test_late_calls_of_a_layer_that_was_finished_for_others(self):
        # q(1) is finished ahead of q(2), which only a way behind its not comes to.
        text = """
            mode p(in)
            mode q(in)
            mode n(in, out)
            p(X) <- not q(X), n(X, Y), not q(Y), n(Y, Z), not q(Z), q(9)
            q(X) <- X == 3
            q(9)
            n(X, Y) <- Y is X + 1
        """
        self.calls([("n/2", "+-", (1,)), ("n/2", "+-", (2,)), one("p", 1), one("q", 1), one("q", 2), one("q", 3)],
                   text, one("p", 1))
        self.assertEqual(dict(lot_of(program_of(text), one("p", 4)))[one("p", 4)], [()])
        self.assertEqual(dict(lot_of(program_of(text), one("p", 2)))[one("p", 2)], [])

    def test_what_a_nots_own_unknowns_match(self):
        text = "mode p(in) \n mode q(in, out) \n p(X) <- not q(X, Own) \n q(1, 5) \n q(2, 5) <- 1 < 0"
        for ins, rows in ((1, []), (2, [()]), (3, [()])):
            self.lot([(one("p", ins), rows), (("q/2", "+-", (ins,)), [(5,)] if ins == 1 else [])], text, one("p", ins))


class ThingsTest(LotCase):
    def bound(self, text, call, things):
        """A lot of just so many things, with most as many, one more and one less."""
        with self.subTest(text=text, call=call):
            self.assertEqual(things_of(rows_of(text), call), things)
        wanted = lot_of(program_of(text), call)
        for most in (things, things + 1, 200):
            self.assertEqual(lot_of(program_of(text), call, most=most), wanted)
            self.assertNotEqual(verdict_of(program_of(text), call, most=most), "open")
        if things > 1:
            self.verdict("open", text, call, most=things - 1)

    def test_calls_rows_and_ways(self):
        # 6 calls, 5 rows, and 1 + 1 + 1, 1 + 1 ways.
        self.bound(PATHS, p("a"), 16)
        self.bound(PATHS, e("a"), 2)
        self.bound(PATHS, e("c"), 1)
        self.bound("mode a(out) \n a(1) \n a(2) \n a(2)", ("a/1", "-", ()), 3)
        self.bound("mode a \n a <- 1 < 2, 1 < 2 \n a <- 1 < 2 \n a <- 1 < 0", ("a/0", "", ()), 5)
        self.bound("mode a \n mode b \n a <- not b \n b <- 1 < 0", ("a/0", "", ()), 4)

    def test_ways_that_come_of_late_rows_count(self):
        ring = PATHS.replace("e(b, c)", "e(b, a)") + "table p 2"
        self.bound(ring, p("a"), 4 + 6 + 8)

    def test_the_greatest_lots(self):
        text = "mode n(in, out) \n n(X, Y) <- Y in 1 .. X \n n(0, 0)"
        self.bound(text, ("n/2", "+-", (99,)), 199)
        self.verdict("open", text, ("n/2", "+-", (100,)))
        text = "mode n(in, out) \n n(X, Y) <- Y in 1 .. X \n n(X, 0)"
        self.bound(text, ("n/2", "+-", (99,)), 200)
        self.verdict("open", text, ("n/2", "+-", (99,)), most=199)
        self.verdict("open", text, ("n/2", "+-", (100,)))
        self.verdict("open", text, ("n/2", "+-", (100,)), most=200)

    def test_lots_without_end(self):
        self.verdict("open", "mode a(in) \n a(X) <- Y is X + 1, a(Y)", one("a", 1))
        self.verdict("open", "mode a(in) \n table a 1 \n a(X) <- Y is X + 1, a(Y)", one("a", 1))
        self.verdict("open", "mode a(out) \n table a 1 \n a(1) \n a(Y) <- a(X), Y is X + 1", ("a/1", "-", ()))
        self.verdict("open", "mode a(in) \n a(X) <- a(s(X))", one("a", 1))

    def test_a_walk_that_is_refused_for_another_reason(self):
        for goal in (f"Y is {BIG} + 1", "Y in 1 .. 401 such 1 < 0", f"Y in 1 .. 2 * {BIG}"):
            self.verdict("open", f"mode a(in) \n mode b(in) \n a(X) <- b(X) \n b(1) <- {goal} \n b(2)", one("a", 1))
            self.verdict("book", f"mode a(in) \n mode b(in) \n a(X) <- b(X) \n b(1) <- {goal} \n b(2)", one("a", 2))
            # Only when the last row is found a way comes to it.
            text = f"mode a(out) \n table a 1 \n a(1) \n a(Y) <- a(X), X < 5, Y is X + 1 \n a(0) <- a(5), {goal}"
            self.verdict("open", text, ("a/1", "-", ()))
            self.verdict("book", text.replace("a(5)", "a(6)"), ("a/1", "-", ()))

    def test_terms_that_grow(self):
        # The in grows step by step, until it is too deep; nothing else bounds it here.
        self.verdict("open", "mode a(in) \n a(X) <- a(s(X)) \n a(s(s(X)))", one("a", 0))
        self.verdict("open", "mode a(in) \n table a 1 \n a(X) <- a(s(X))", one("a", 0))

    def test_what_is_refused_behind_a_not_that_does_not_let_by(self):
        text = f"mode a(in) \n mode b(in) \n a(X) <- not b(X), Y is {BIG} + 1 \n b(1)"
        self.verdict("book", text, one("a", 1))
        self.verdict("open", text, one("a", 2))

    def test_more_ways_than_most_in_one_walk(self):
        text = "mode n(in, out) \n n(X, Y) <- Y in 1 .. X, Y < 3 \n mode m(in) \n m(X) <- n(X, Y)"
        self.verdict("book", text, one("m", 50))
        self.verdict("open", text, one("m", 300))
        self.verdict("open", text, one("m", 401))


class LeadsTest(LotCase):
    def test_the_calls_that_a_walk_by_the_lot_meets(self):
        wanted = [(e("a"), []), (e("b"), []), (e("c"), []), (p("a"), [e("a"), p("b")]),
                  (p("b"), [e("b"), p("c")]), (p("c"), [e("c")])]
        self.assertEqual(leads_of(program_of(PATHS), p("a")), wanted)

    def test_by_late_rows_and_by_nots(self):
        text = """
            mode a(out)
            table a 1
            mode b(in)
            a(1)
            a(Y) <- a(X), not b(X), Y is X + 1, b(Y)
            b(X) <- X < 4, 1 < X
        """
        a = ("a/1", "-", ())
        self.assertEqual(leads_of(program_of(text), a),
                         [(a, [a, one("b", 1), one("b", 2)]), (one("b", 1), []), (one("b", 2), [])])


class VerdictTest(LotCase):
    def test_a_call_that_leads_to_itself_in_one_step(self):
        self.verdict("round", "mode a \n a <- a", one("a"))
        self.verdict("round", "mode a \n a \n a <- a", one("a"))
        self.verdict("book", "mode a \n table a 0 \n a <- a", one("a"))
        self.verdict("round", "mode a(in) \n a(X) <- a(1)", one("a", 2))
        self.verdict("round", "mode a(in, out) \n a(X, Y) <- a(X, Y) \n a(1, 2)", ("a/2", "+-", (1,)))

    def test_in_several_steps(self):
        text = "mode a(in) \n a(X) <- Y is (X + 1) mod 5, a(Y)"
        self.verdict("round", text, one("a", 3))
        self.verdict("round", text, one("a", 7))
        self.verdict("book", text + "\n table a 1", one("a", 3))
        ring = "mode a \n mode b \n mode c \n a <- b \n b <- c \n c <- a"
        self.verdict("round", ring, one("b"))
        self.verdict("book", ring + "\n table a 0 \n table b 0 \n table c 0", one("b"))

    def test_a_relation_that_comes_to_itself_but_no_call_does(self):
        self.verdict("book", "mode a(in) \n a(X) <- Y is X - 1, 0 < Y, a(Y) \n a(1)", one("a", 9))
        self.verdict("book", "mode a \n a <- 1 < 0, a", one("a"))

    def test_round_below_the_asked_call(self):
        text = "mode a(in) \n mode b(in) \n {} \n a(X) <- b(X) \n b(X) <- X < 3, b(X) \n b(1)"
        for table in ("", "table a 1"):
            self.verdict("round", text.format(table), one("a", 1))
            self.verdict("book", text.format(table), one("a", 3))
        self.verdict("round", "mode a \n mode b \n a <- not b \n b <- b", one("a"))

    def test_what_no_way_comes_to_is_not_round(self):
        self.verdict("book", "mode a \n mode b \n mode c \n a <- c, b \n b <- b \n c <- 1 < 0", one("a"))
        self.verdict("book", "mode a \n mode b \n mode c \n a <- not c, b \n b <- b \n c", one("a"))
        self.verdict("round", "mode a \n mode b \n mode c \n a <- c, b \n b <- b \n c", one("a"))

    def test_open_goes_ahead_of_round(self):
        text = "mode a(in) \n a(X) <- a(X) \n a(X) <- Y is X + 1, a(Y)"
        self.verdict("open", text, one("a", 1))
        self.verdict("round", "mode a(in) \n a(X) <- a(X)", one("a", 1), most=2)
        # A call and a way by its own row, or none.
        self.verdict("round", "mode a(in) \n a(X) <- a(X)", one("a", 1), most=1)
        self.verdict("open", "mode a(in) \n a(X) <- a(X) \n a(1)", one("a", 1), most=2)
        self.verdict("round", "mode a(in) \n a(X) <- a(X) \n a(1)", one("a", 1), most=3)

    def test_calls_that_are_refused(self):
        program = program_of(TEXT + "\n table lone 2")
        for call in NO_CALLS:
            for function in (lot_of, leads_of, verdict_of):
                with self.subTest(call=call, function=function.__name__):
                    self.assert_refused(NoCall, {}, function, program, call)
                    self.assert_refused(NoCall, {}, function, program, call, most=1)


class ChanceTest(Case):
    def test_as_the_slow_reading_finds(self):
        seen = {}
        for maker in programs(range(400, 700)):
            house = slow.House(maker.rows)
            if house.refusal is None:
                for call in maker.calls(3):
                    seen[self.compare(maker, house, call, maker.random.choice([200, 200, 12, 5]))] = True
        self.assertEqual(sorted(seen), ["book", "open", "round"])

    def compare(self, maker, house, call, most):
        program, wanted = Program(maker.rows), house.verdict(call, most)
        self.assertEqual(verdict_of(program, call, most=most), wanted, (maker.rows, call))
        if wanted == "open":
            self.assert_refused(Open, {}, lot_of, program, call, most=most)
        else:
            lot = house.lot(call, most)
            self.assertEqual(lot_of(program, call, most=most), list(lot.items()))
            self.assertEqual(leads_of(program, call, most=most), list(house.leads(lot).items()))
        return wanted


if __name__ == "__main__":
    unittest.main()
