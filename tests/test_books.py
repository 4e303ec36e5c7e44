"""[48] to [50]: answers in the order of the plain search, floors, and books."""

import time
import unittest

from goalstead.books import answers_of, book_of
from goalstead.errors import NoCall, Open, Round
from goalstead.lots import lot_of
from goalstead.program import Program
from tests import slow
from tests.chance import programs
from tests.helpers import Case, program_of, rows_of
from tests.test_lots import PATHS, e, one, p
from tests.test_walks import NO_CALLS, TEXT

# A call a(X) leads to a(X - 1), and so on down to a(0), which leads to nothing.
DOWN = "mode a(in) \n a(X) <- Y is X - 1 + 0 // X, a(Y)"


class BookCase(Case):
    def book(self, wanted, text, call, **most):
        with self.subTest(text=text, call=call, most=most):
            program = program_of(text)
            self.assertEqual(book_of(program, call, **most), wanted)
            self.assertEqual(answers_of(program, call, **most), dict(wanted)[call])
            self.assertEqual(slow.House(rows_of(text)).book(call), wanted)

    def answers(self, wanted, text, call):
        with self.subTest(text=text, call=call):
            self.assertEqual(answers_of(program_of(text), call), wanted)
            self.assertEqual(dict(book_of(program_of(text), call))[call], wanted)

    def refused(self, kind, text, call, **most):
        with self.subTest(text=text, call=call):
            program = program_of(text)
            for function in (book_of, answers_of):
                for _ in range(2):
                    self.assert_refused(kind, {}, function, program, call, **most)


class AnswersTest(BookCase):
    def test_in_the_order_of_the_plain_search(self):
        text = "mode a(out) \n a(s(1)) \n a(b) \n a(2) \n a(b) \n a(1)"
        self.answers([(("s", 1),), ("b",), (2,), (1,)], text, ("a/1", "-", ()))
        text = """
            mode n(in, out)
            mode q(in, out)
            n(1, c)
            n(1, b)
            n(b, z)
            n(b, c)
            n(c, y)
            n(c, a)
            q(X, Z) <- n(X, Y), n(Y, Z)
            q(X, Y) <- n(X, Y)
        """
        self.answers([("y",), ("a",), ("z",), ("c",), ("b",)], text, ("q/2", "+-", (1,)))

    def test_a_call_that_is_not_tabled_below_another(self):
        text = """
            mode a(out)
            mode b(out)
            a(s(X)) <- b(X)
            a(0)
            b(3)
            b(1)
            b(3)
            b(2)
        """
        self.answers([(("s", 3),), (("s", 1),), (("s", 2),), (0,)], text, ("a/1", "-", ()))

    def test_rows_of_tabled_calls_in_order(self):
        text = """
            mode a(out)
            mode b(out)
            table b 1
            a(s(X)) <- b(X)
            a(0)
            b(3)
            b(1)
            b(2)
        """
        self.answers([(("s", 1),), (("s", 2),), (("s", 3),), (0,)], text, ("a/1", "-", ()))
        self.answers([(1,), (2,), (3,)], text, ("b/1", "-", ()))
        self.answers([(0,), (("s", 1),), (("s", 2),), (("s", 3),)], text + "\n table a 1", ("a/1", "-", ()))

    def test_the_order_of_the_lots_rows_does_not_matter(self):
        program = program_of(PATHS.replace("e(a, b)", "e(a, c) \n e(a, b)"))
        self.assertEqual(dict(lot_of(program, p("a")))[p("a")], [("b",), ("c",)])
        self.assertEqual(answers_of(program, p("a")), [("c",), ("b",)])

    def test_each_at_its_first_coming(self):
        text = "mode a(in, out) \n a(X, Y) <- Z in 1 .. X, Y is Z mod 3 \n a(X, 5) \n a(X, 1)"
        self.answers([(1,), (2,), (0,), (5,)], text, ("a/2", "+-", (7,)))

    def test_answers_each_found_once_however_often_a_call_is_met(self):
        # Each call meets the next one twice: found each time anew, that would be 2 ** 40 times.
        text = "mode a(in) \n a(X) <- 0 < X, Y is X - 1, a(Y), a(Y) \n a(0)"
        with self.assertRaises(Open):
            answers_of(program_of(text), one("a", 40))
        self.answers([()], text, one("a", 30))
        self.answers([], "mode a(in) \n a(X) <- Y is X - 1 + 0 // X, a(Y) \n a(X) <- Y is X - 1 + 0 // X, a(Y)",
                     one("a", 60))


class BookTest(BookCase):
    def test_by_rising_floors_and_in_order_on_each(self):
        wanted = [(e("a"), [("b",)]), (e("b"), [("c",)]), (e("c"), []),
                  (p("c"), []), (p("b"), [("c",)]), (p("a"), [("b",), ("c",)])]
        self.book(wanted, PATHS, p("a"))
        self.book([(e("c"), []), (p("c"), [])], PATHS, p("c"))

    def test_a_tabled_call_stands_on_the_lowest_floor(self):
        wanted = [(e("a"), [("b",)]), (e("b"), [("c",)]), (e("c"), []), (p("a"), [("b",), ("c",)]),
                  (p("b"), [("c",)]), (p("c"), [])]
        self.book(wanted, PATHS + "table p 2", p("a"))
        text = "mode a \n mode z \n table a 0 \n a <- b \n b <- z \n z \n mode b"
        self.book([(one("a"), [()]), (one("z"), [()]), (one("b"), [()])], text, one("a"))

    def test_a_call_that_leads_to_tabled_ones_alone_stands_on_the_lowest_floor_too(self):
        # It comes ahead of the tabled call in their order, and yet its answers are found by that one's rows.
        text = "mode a(out) \n mode b(out) \n table b 1 \n a(X) <- b(X) \n b(2) \n b(1)"
        self.book([(("a/1", "-", ()), [(1,), (2,)]), (("b/1", "-", ()), [(1,), (2,)])], text, ("a/1", "-", ()))

    def test_the_greatest_floor_below_counts(self):
        text = "mode a \n mode b \n mode c \n mode d \n a <- b, d \n b <- c \n c <- d \n d"
        names = [call[0] for call, _ in book_of(program_of(text), one("a"))]
        self.assertEqual(names, ["d/0", "c/0", "b/0", "a/0"])
        text = "mode a \n mode b \n mode c \n mode d \n table b 0 \n a <- b, d \n b <- c \n c <- d \n d"
        self.book([(one("b"), [()]), (one("d"), [()]), (one("a"), [()]), (one("c"), [()])], text, one("a"))

    def test_nots_calls_stand_there_too(self):
        text = "mode a(in) \n mode b(in) \n mode c(in) \n a(X) <- not b(X) \n b(X) <- not c(X) \n c(1)"
        self.book([(one("c", 1), [()]), (one("b", 1), []), (one("a", 1), [()])], text, one("a", 1))
        self.book([(one("c", 2), []), (one("b", 2), [()]), (one("a", 2), [])], text, one("a", 2))

    def test_just_the_calls_of_the_lot(self):
        for text, call in ((PATHS, p("b")), (PATHS + "table p 2", p("a")), (DOWN, one("a", 7))):
            lot, book = lot_of(program_of(text), call), book_of(program_of(text), call)
            self.assertEqual(sorted(lot, key=repr), sorted([(other, sorted(rows)) for other, rows in book], key=repr))

    def test_calls_a_hundred_deep(self):
        wanted = [(one("a", number), []) for number in range(100)]
        self.book(wanted, DOWN, one("a", 99))
        self.book(wanted, DOWN.replace("- 1", "- 1 * 1"), one("a", 99), most=199)
        self.refused(Open, DOWN, one("a", 100))
        up = "mode a(in) \n a(X) <- Y is X + 1 + 0 // (X - 99), a(Y)"
        self.book(wanted[::-1], up, one("a", 0))
        self.assertEqual(book_of(program_of(DOWN + "\n table a 1"), one("a", 99)), wanted)

    def test_answers_come_up_from_below(self):
        text = "mode a(in, out) \n a(X, Y) <- 0 < X, Z is X - 1, a(Z, Y) \n a(0, 5) \n a(0, 4)"
        wanted = [(("a/2", "+-", (number,)), [(5,), (4,)]) for number in range(24)]
        self.book(wanted, text, ("a/2", "+-", (23,)))

    def test_told_lists_are_new_ones_each_time(self):
        program = program_of(PATHS)
        self.assert_new_each_time(book_of, program, p("a"))
        self.assert_new_each_time(answers_of, program, p("a"))
        kept = book_of(program, p("a"))
        for _, rows in book_of(program, p("a")):
            rows.append("mine")
        self.assertEqual(book_of(program, p("a")), kept)


class RefusedTest(BookCase):
    def test_round(self):
        self.refused(Round, "mode a \n a \n a <- a", one("a"))
        self.refused(Round, "mode a \n mode b \n table a 0 \n a <- b \n b <- b", one("a"))
        self.refused(Round, "mode a(in) \n a(X) <- Y is (X + 1) mod 3, a(Y)", one("a", 1))
        self.refused(Round, "mode a(in) \n mode b(in) \n a(X) <- not b(X) \n b(X) <- b(X)", one("a", 1))

    def test_open_goes_ahead_of_round(self):
        text = "mode a(in) \n a(X) <- a(X) \n a(X) <- Y is X + 1, a(Y)"
        self.refused(Open, text, one("a", 1))
        text = "mode a(in) \n a(X) <- a(X) \n a(1)"
        self.refused(Open, text, one("a", 1), most=2)
        self.refused(Round, text, one("a", 1), most=3)

    def test_calls_that_the_program_does_not_have(self):
        for call in NO_CALLS:
            self.refused(NoCall, TEXT + "\n table lone 2", call)
            self.refused(NoCall, TEXT + "\n table lone 2", call, most=1)

    def test_most(self):
        self.assertEqual(len(book_of(program_of(PATHS), p("a"), most=16)), 6)
        self.refused(Open, PATHS, p("a"), most=15)


class ChanceTest(Case):
    def test_as_the_slow_reading_searches(self):
        seen = {}
        for maker in programs(range(700, 1100)):
            house = slow.House(maker.rows)
            if house.refusal is None:
                program = Program(maker.rows)
                for call in maker.calls(3):
                    verdict = house.verdict(call)
                    seen[verdict] = True
                    if verdict == "book":
                        lot = house.lot(call)
                        self.assertEqual(book_of(program, call), house.book(call))
                        self.assertEqual(answers_of(program, call), house.search(call, lot))
                        if len(lot) < 12:
                            found = list(dict.fromkeys(house.plain_search(call, lot)))
                            self.assertEqual(answers_of(program, call), found)
                    else:
                        kind = Round if verdict == "round" else Open
                        self.assert_refused(kind, {}, book_of, program, call)
                        self.assert_refused(kind, {}, answers_of, program, call)
        self.assertEqual(sorted(seen), ["book", "open", "round"])


class LongTest(Case):
    """Long but promised inputs end in seconds."""

    def quick(self, text, call, verdict):
        began = time.monotonic()
        program = program_of(text)
        if verdict is None:
            book_of(program, call)
        else:
            self.assert_refused(verdict, {}, book_of, program, call)
        self.assertLess(time.monotonic() - began, 10)

    def test_sixty_rows_and_deep_calls(self):
        facts = "\n".join(f"a(f({number}))" for number in range(57))
        self.quick(f"{DOWN} \n {facts}", one("a", 98), None)
        self.quick(f"{DOWN} \n table a 1 \n {facts}", one("a", 98), None)

    def test_rows_that_come_one_by_one(self):
        text = "mode a(out) \n table a 1 \n a(0) \n a(Y) <- a(X), Y is X + 1, Y < {}"
        self.quick(text.format(48), ("a/1", "-", ()), None)
        self.quick(text.format(500), ("a/1", "-", ()), Open)

    def test_fields_of_four_hundred_points(self):
        test = "X * X * X - 3 * X * X + 7 * X =/= A and X * X == A"
        fields = "\n".join(f"a(A, X) <- X in {number} .. {number + 399} such {test}" for number in range(58))
        self.quick(f"mode a(in, out) \n {fields}", ("a/2", "+-", (169,)), None)
        late = test.replace("X * X == A", "X < 50 and X == Y + 1")
        text = f"mode a(in, out) \n table a 2 \n a(A, A) \n a(A, X) <- a(A, Y), X in 1 .. 400 such {late}"
        self.quick(text, ("a/2", "+-", (1,)), None)

    def test_a_lot_that_is_open_is_left_soon(self):
        text = "mode a(in, out) \n a(X, Y) <- b(A), b(B), b(C), b(D), b(E), b(Y) \n mode b(out) \n b(X) <- X in 1 .. 60"
        self.quick(text, ("a/2", "+-", (1,)), Open)


if __name__ == "__main__":
    unittest.main()
