"""[64], [65]: images of programs, and images renewed."""

import gc
import time
import unittest

from goalstead.books import answers_of, book_of
from goalstead.codes import fits, run
from goalstead.errors import GoalError, NoCall, Open
from goalstead.image import Image
from goalstead.lots import leads_of, lot_of, verdict_of
from goalstead.program import Program
from goalstead.walking import walk_clause
from tests import slow
from tests.chance import programs
from tests.helpers import Case, program_of, rows_of
from tests.test_books import DOWN
from tests.test_lots import PATHS, e, one, p
from tests.test_papers import KINDS, RING, a
from tests.test_walking import BIG, flat
from tests.test_walks import NO_CALLS, TEXT


def outcome(function, *places, **names):
    """What is told, or the refusal's name."""
    try:
        return function(*places, **names)
    except GoalError as error:
        return type(error).__name__


class ImageCase(Case):
    def alike(self, image, program, call, told=(), mosts=(200, 9, 2)):
        """All that is asked of both; tells the verdict."""
        for most in mosts:
            with self.subTest(call=call, most=most):
                wanted = outcome(program.walk, call, list(told), most=most)
                self.assertEqual(outcome(image.walk, call, list(told), most=most), wanted)
                for function in (lot_of, leads_of, verdict_of, book_of, answers_of):
                    self.assertEqual(outcome(function, image, call, most=most),
                                     outcome(function, program, call, most=most))
        self.assertEqual(outcome(image.walk, call, list(told)), outcome(program.walk, call, list(told)))
        return outcome(verdict_of, program, call)

    def same_house(self, image, program, more=()):
        """Titles, modes, tables, layers and codes are those of a new image."""
        new = Image(program)
        for title in [*program.titles(), *more, "", "zz/0", "zz"]:
            self.assertEqual(image.modes(title), program.modes(title))
            self.assertIs(image.is_tabled(title), program.is_tabled(title))
            self.assertEqual(image.layer(title), program.layer(title))
            for mode in ("", "+", "-", "++", "+-", "-+", "--", "+++", "---"):
                if mode in program.modes(title):
                    self.assertEqual(image.codes_of(title, mode), new.codes_of(title, mode))
                    self.are_laid(image, program, title, mode)
                else:
                    for _ in range(2):
                        self.assert_refused(NoCall, {}, image.codes_of, title, mode)

    def are_laid(self, image, program, title, mode):
        pairs = image.codes_of(title, mode)
        self.assertEqual([line for line, _ in pairs], program.clauses(title))
        for line, codes in pairs:
            self.assertIs(type(codes), list)
            self.assertTrue(fits(codes, mode.count("+")))
            self.assertEqual(codes.count(("mark",)), len(program.clause(line)[1]))


class WalkTest(ImageCase):
    def test_walks(self):
        program = program_of(TEXT)
        image = Image(program)
        told = [(e("a"), [("c",), (7,), ("b",), (1,)]), (e("b"), [("d",), ("c",)]), (e("c"), [("e",)]),
                (("f/1", "+", ("d",)), [()])]
        for call in (p("a"), p("own"), e("own"), e("zz"), ("f/1", "+", (1,)), ("k/0", "", ())):
            self.alike(image, program, call, told)
        handed = [(call, list(rows)) for call, rows in told]
        for _ in range(3):
            answers, met, ways = image.walk(p("a"), told)
            self.assertEqual((answers, len(met), ways), ([(1,), ("c",), (7,), ("b",), ("e",), (3,)], 8, 14))
            self.assertEqual([type(part) for part in (answers, met, ways)], [list, list, int])
            answers.clear()
            met.clear()
        self.assertEqual(told, handed)

    def test_just_most_ways_and_one_more(self):
        text = "mode n(in, out) \n n(X, Y) <- Y in 1 .. X \n n(X, 0) <- 1 < 2"
        image = Image(program_of(text))
        self.assertEqual(image.walk(("n/2", "+-", (199,)), [])[2], 200)
        self.assertEqual(image.walk(("n/2", "+-", (1,)), [], most=2)[2], 2)
        for ins, most in ((200, 200), (199, 199), (1, 1)):
            for _ in range(2):
                self.assert_refused(Open, {}, image.walk, ("n/2", "+-", (ins,)), [], most=most)
        text = "mode a \n mode e(out) \n a <- e(A), e(B), e(C), e(D), e(E), e(F)"
        told = [(("e/1", "-", ()), [(number,) for number in range(190)])]
        self.assert_refused(Open, {}, Image(program_of(text)).walk, one("a"), told)
        # A field that nothing comes of has no ways, and what a head puts together is no way.
        image = Image(program_of("mode a(out) \n a(f(X, Y)) <- X in 1 .. 20 and Y in 1 .. 20 such X * Y == 1"))
        self.assertEqual(image.walk(("a/1", "-", ()), [], most=1), ([(("f", 1, 1),)], [], 1))

    def test_refusals(self):
        image = Image(program_of(TEXT + "\n table lone 2"))
        for call in NO_CALLS:
            for function in (lot_of, leads_of, verdict_of, book_of, answers_of):
                self.assert_refused(NoCall, {}, function, image, call)
            self.assert_refused(NoCall, {}, image.walk, call, [], most=1)
        text = f"mode a(in, out) \n a(1, 2) \n a(X, s(X)) <- 1 < 2 \n a(2, X) <- X is {BIG} + 1"
        text += "\n a(3, 1) <- X in 1 .. 401"
        program = program_of(text)
        image = Image(program)
        for ins in (1, 2, 3, 4, flat(59), flat(60)):
            self.alike(image, program, a(ins))

    def test_each_kind_of_goal(self):
        for text in (KINDS, KINDS + "\n table a 2", PATHS, RING, RING + "table p 2", PATHS + "table p 2"):
            program = program_of(text)
            for call in (a(1), p("a"), p("c")) if "a/2" not in program.titles() else (a(1), a(2)):
                self.alike(Image(program), program, call)

    def test_lots_near_two_hundred_things(self):
        for text in (DOWN, DOWN + "\n table a 1"):
            program = program_of(text)
            image = Image(program)
            for ins in (97, 98, 99, 100):
                self.alike(image, program, one("a", ins), mosts=(200, 199, 198))

    def test_nots_are_held_against_finished_rows(self):
        text = """
            mode a(in)
            mode b(in)
            mode c(in)
            table b 1
            a(X) <- not b(X), c(X)
            b(X) <- Y is X - 1, b(Y)
            b(0) <- not c(2)
            c(1)
            c(2) <- 1 < 0
        """
        program = program_of(text)
        image = Image(program)
        self.assertEqual([image.layer(title) for title in ("a/1", "b/1", "c/1", "d/1")], [2, 1, 0, 0])
        for ins in (0, 1, 2, 5, "x"):
            self.alike(image, program, one("a", ins))

    def test_the_program_may_be_asked_beside_it(self):
        program = program_of(PATHS)
        image = Image(program)
        for _ in range(2):
            self.assertEqual(answers_of(program, p("a")), [("b",), ("c",)])
            self.assertEqual(answers_of(image, p("a")), [("b",), ("c",)])
        other = Image(program)
        image.renew(program_of("mode p(in, out) \n p(a, z)"))
        self.assertEqual(answers_of(image, p("a")), [("z",)])
        self.assertEqual(answers_of(other, p("a")), answers_of(program, p("a")))

    def test_it_does_not_hold_the_program(self):
        image = Image(program_of(PATHS))
        seen, waiting = {}, [image]
        while waiting:
            thing = waiting.pop()
            if id(thing) not in seen and not isinstance(thing, type):
                seen[id(thing)] = thing
                self.assertNotIsInstance(thing, Program)
                waiting.extend(gc.get_referents(thing))
        self.assertGreater(len(seen), 20)

    def test_by_chance(self):
        seen = {}
        for maker in programs(range(1100, 1500)):
            if slow.House(maker.rows).refusal is None:
                program = Program(maker.rows)
                image = Image(program)
                self.same_house(image, program)
                for call in maker.calls(3):
                    met = outcome(program.walk, call, [])
                    told = [] if isinstance(met, str) else maker.told(met[1])
                    seen[self.alike(image, program, call, told, (200, 11))] = True
        self.assertEqual(sorted(seen), ["book", "open", "round"])


class CodesTest(ImageCase):
    def test_codes_for_each_relation_and_mode(self):
        text = PATHS + "mode e(out, out) \n mode lone \n table q 1 \n mode p(in, in)"
        program = program_of(text)
        image = Image(program)
        self.same_house(image, program)
        self.assertEqual([line for line, _ in image.codes_of("e/2", "--")], [1, 2])
        self.assertEqual([line for line, _ in image.codes_of("p/2", "++")], [4, 5])
        self.assertEqual(image.codes_of("lone/0", ""), [])
        for title, mode in (("q/1", "+"), ("q/1", ""), ("lone/0", "-"), ("e/2", "++"), ("e/2", ""), ("e", "+-"),
                            ("zz/2", "+-")):
            self.assert_refused(NoCall, {}, image.codes_of, title, mode)

    def test_they_run_as_the_clauses_walk(self):
        for text in (PATHS, KINDS):
            program = program_of(text)
            image = Image(program)
            for title in program.titles():
                for mode in program.modes(title):
                    for line, codes in image.codes_of(title, mode):
                        ins = (1,) * mode.count("+")
                        told = [(("n/2", "+-", (1,)), [(2,), (3,)])]
                        self.assertEqual(run(codes, ins, told), walk_clause(program, line, mode, ins, told))

    def test_lists_that_are_told_are_the_askers_own(self):
        image = Image(program_of(PATHS))
        wanted = repr(image.codes_of("p/2", "+-"))
        told = image.codes_of("p/2", "+-")
        told[0][1].clear()
        told.pop()
        self.assertEqual(repr(image.codes_of("p/2", "+-")), wanted)
        image.modes("p/2").append("--")
        self.assertEqual(image.modes("p/2"), ["+-"])
        self.assertEqual(answers_of(image, p("a")), [("b",), ("c",)])
        triples = image.renew(program_of("mode k \n k"))
        triples.clear()
        self.assertEqual(image.renew(program_of("mode k \n k")), [])


BASE = """
    mode e(in, out)
    mode e(out, out)
    mode p(in, out)
    mode f(in)
    e(a, b)
    p(X, Y) <- e(X, Y)
    p(X, Z) <- e(X, Y), p(Y, Z)
    p(X, X) <- not f(X)
    f(a)
"""


class RenewTest(ImageCase):
    def renewed(self, wanted, text, before=BASE):
        """The triples that a renewal of an image tells; behind it the image is as a new one."""
        rows = rows_of(text)
        with self.subTest(text=text):
            image, program = Image(program_of(before)), Program(rows)
            told = image.renew(program)
            self.assertIs(type(told), list)
            self.assertEqual(told, wanted)
            self.same_house(image, program, program_of(before).titles())
            self.assertEqual(image.renew(Program(rows)), [])
            self.same_house(image, program)
            for call in (p("a"), e("a"), ("e/2", "--", ()), one("f", "a")):
                self.alike(image, program, call)

    def test_an_equal_program(self):
        self.renewed([], BASE)
        self.renewed([], BASE + "\n table z 1 \n mode z(in) \n mode zz")

    def test_a_line_put_ahead(self):
        self.renewed([], "\n mode zz \n" + BASE)
        self.renewed([], BASE.replace("e(a, b)", "mode zz \n e(a, b)"))
        self.renewed([(4, "e/2", "+-"), (4, "e/2", "--")], BASE.replace("e(a, b)", "e(z, z) \n e(a, b)"))

    def test_clauses_in_another_order_twice_or_left_out(self):
        moved = BASE.replace("f(a)", "").replace("mode e(in", "f(a) \n mode e(in")
        self.renewed([], moved)
        self.renewed([], BASE.replace("f(a)", "f(a) \n f(a) \n e(a, b)"))
        self.renewed([], BASE.replace("p(X, X) <- not f(X)", ""))
        # A clause that stands twice and is new is laid for both its lines.
        self.renewed([(9, "f/1", "+"), (10, "f/1", "+")], BASE + "f(b) \n f(b)")

    def test_a_head_or_a_goal_changed(self):
        self.renewed([(8, "f/1", "+")], BASE.replace("f(a)", "f(b)"))
        self.renewed([(5, "p/2", "+-")], BASE.replace("p(X, Y) <- e(X, Y)", "p(X, Y) <- e(X, Z), Y = Z"))
        self.renewed([(5, "p/2", "+-")], BASE.replace("p(X, Y) <- e(X, Y)", "p(Z, Y) <- e(Z, Y)"))
        self.renewed([(6, "p/2", "+-")], BASE.replace("e(X, Y), p(Y, Z)", "e(X, Y), e(Y, Z)"))
        self.renewed([(5, "e/2", "+-"), (5, "e/2", "--")], BASE.replace("p(X, Y) <- e(X, Y)", "e(q, q)"))
        self.renewed([(7, "p/2", "+-")], BASE.replace("not f(X)", "f(X)"))

    def test_a_mode_of_its_own_relation(self):
        # Only the clauses in the new mode are laid, but for one whose goal names its own relation.
        self.renewed([(5, "p/2", "++"), (6, "p/2", "+-"), (6, "p/2", "++"), (7, "p/2", "++")],
                     BASE.replace("mode f(in)", "mode p(in, in)").replace("f(a)", "mode f(in)") + "f(a)")
        self.renewed([(9, "f/1", "+")], BASE + "f(c)")

    def test_modes_of_named_relations(self):
        # A mode added to, cut from or exchanged in a relation that goals or nots name.
        added = BASE + "mode e(in, in)"
        self.renewed([(4, "e/2", "++"), (5, "p/2", "+-"), (6, "p/2", "+-")], added)
        self.renewed([(5, "p/2", "+-"), (6, "p/2", "+-")], BASE, before=added)
        self.renewed([(4, "p/2", "+-"), (5, "p/2", "+-")], BASE.replace("    mode e(out, out)\n", ""))
        turned = BASE.replace("mode e(in, out)", "mode x").replace("mode e(out, out)",
                                                                   "mode e(out, out) \n mode e(in, out)")
        self.renewed([(6, "p/2", "+-"), (7, "p/2", "+-")], turned)
        self.renewed([(7, "p/2", "+-"), (8, "f/1", "-")], BASE.replace("mode f(in)", "mode f(out)"))
        self.renewed([(7, "p/2", "+-"), (8, "f/1", "-")], BASE + "mode f(out)")
        # The same mode told twice is no other.
        self.renewed([], BASE + "mode f(in) \n mode e(in, out) \n table f 1")

    def test_modes_changed_and_changed_back(self):
        added = BASE + "mode e(in, in)"
        image = Image(program_of(BASE))
        wanted = [(4, "e/2", "++"), (5, "p/2", "+-"), (6, "p/2", "+-")]
        self.assertEqual(image.renew(program_of(added)), wanted)
        self.assertEqual(image.renew(program_of(BASE)), wanted[1:])
        self.assertEqual(image.renew(program_of(added)), wanted)

    def test_what_the_old_program_alone_had_is_gone(self):
        image = Image(program_of(BASE))
        self.assertEqual(image.renew(program_of("mode f(in)")), [])
        self.same_house(image, program_of("mode f(in)"), ["e/2", "p/2"])
        for call in (p("a"), e("a")):
            self.assert_refused(NoCall, {}, image.walk, call, [])
        self.assertEqual(image.walk(one("f", "a"), []), ([], [], 0))
        # And so it is laid anew where it comes again.
        wanted = [(4, "e/2", "+-"), (4, "e/2", "--"), (5, "p/2", "+-"), (6, "p/2", "+-"), (7, "p/2", "+-"),
                  (8, "f/1", "+")]
        self.assertEqual(image.renew(program_of(BASE)), wanted)
        self.assertEqual(image.renew(program_of("")), [])
        self.assert_refused(NoCall, {}, image.codes_of, "f/1", "+")

    def test_tables_and_layers(self):
        image = Image(program_of(BASE))
        self.assertEqual((image.is_tabled("p/2"), image.layer("p/2")), (False, 1))
        self.assertEqual(image.renew(program_of(BASE + "table p 2")), [])
        self.assertIs(image.is_tabled("p/2"), True)
        image.renew(program_of(BASE.replace("not f(X)", "f(X)")))
        self.assertEqual((image.is_tabled("p/2"), image.layer("p/2")), (False, 0))

    def test_by_chance(self):
        """Renewals from program to program, each held against the rows of [65]."""
        image, before, laid_anew, kept = Image(program_of("")), {}, 0, 0
        for seed in range(4300, 4360):
            for maker in programs([seed]):
                variants = [maker.rows]
                for _ in range(5):
                    variants.append(self.varied(maker, variants[-1]))
                for rows in variants:
                    if slow.House(rows).refusal is None:
                        program = Program(rows)
                        wanted, held = self.slowly_renewed(before, slow.House(rows))
                        self.assertEqual(image.renew(program), wanted)
                        laid_anew += len(wanted)
                        kept += len(held) - len(wanted)
                        before = held
                        self.same_house(image, program)
        self.assertGreater(laid_anew, 100)
        self.assertGreater(kept, 100)

    def varied(self, maker, rows):
        """The rows with one moved, twice, left out, or exchanged for another clause."""
        rows, kind = list(rows), maker.random.choice(["move", "twice", "cut", "clause", "mode"])
        at = maker.random.randrange(len(rows))
        if kind == "move":
            rows.insert(maker.random.randrange(len(rows)), rows.pop(at))
        elif kind == "twice":
            rows.insert(maker.random.randrange(len(rows)), rows[at])
        elif kind == "cut":
            rows.pop(at)
        elif kind == "clause":
            rows.insert(at, maker.fact(maker.random.choice("ef")))
        else:
            name = maker.random.choice(maker.names)
            mode = maker.random.choice(maker.modes[name])
            rows.insert(at, ("mode", name, mode.replace("-", "+", 1)))
        return rows

    def slowly_renewed(self, before, house):
        """[65]: the triples, and what is held then: clauses in modes, with the modes of what they name."""
        triples, held = [], {}
        for line, (head, goals) in house.clauses.items():
            title = slow.title_of(head)
            for mode in house.modes[title]:
                named = [slow.title_of(slow.relation(goal)) for goal in goals if slow.relation(goal) is not None]
                now = {other: list(house.modes[other]) for other in named}
                if before.get(repr((head, goals, mode))) != now:
                    triples.append((line, title, mode))
                held[repr((head, goals, mode))] = now
        return triples, held


class LongTest(ImageCase):
    def test_sixty_lines_in_seconds(self):
        began = time.monotonic()
        goals = ", ".join(["e(X, f(A, B, c, f(d, C, f(g, h))))"] * 5) + ", e(X, Y)"
        text = "mode e(in, out) \n mode e(out, out) \n mode p(in, out) \n" + f"p(X, Y) <- {goals} \n" * 50 + "e(a, b)"
        program = program_of(text)
        image = Image(program)
        for _ in range(50):
            self.assertEqual(image.renew(program), [])
        test = "X * X * X - 3 * X * X + 7 * X =/= A and X * X == A"
        fields = "\n".join(f"a(A, X) <- X in {number} .. {number + 399} such {test}" for number in range(58))
        program = program_of(f"mode a(in, out) \n {fields}")
        self.alike(Image(program), program, a(169), mosts=(200,))
        self.assertLess(time.monotonic() - began, 30)


if __name__ == "__main__":
    unittest.main()
