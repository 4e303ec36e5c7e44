"""[66] to [69], [73], [74]: a desk's text, questions, states, papers, grounds, deeds, the log, the neat text."""

import unittest

from goalstead.books import book_of
from goalstead.desk import Desk
from goalstead.errors import (
    BadOperator, BadPiece, BadShape, BadSize, GoalError, Ill, Mixed, Modeless, NoAnswer, NoCall, NoMode, NoName,
    NoPaper, NoPlace, NoRoom, Notring, NoStep, Taken,
)
from goalstead.image import Image
from goalstead.lookers import step_holds, turn_holds, warrant_holds
from goalstead.lots import lot_of
from goalstead.program import Program
from goalstead.reader import read_term, read_text
from tests import slow_desk
from tests.helpers import Case
from tests.test_walking import BIG

PATHS = [
    "mode e(in, out)", "e(a, b)", "e(b, c)", "mode p(in, out)", "p(X, Y) <- e(X, Y)", "p(X, Z) <- e(X, Y), p(Y, Z)",
]
RING = ["e(b, a)" if line == "e(b, c)" else line for line in PATHS]
OPEN = ["mode n(in, out)", "n(X, X)", "n(X, Y) <- Z is X + 1, n(Z, Y)"]


def looked(desk):
    """All that a desk tells of itself."""
    return (desk.lines(), desk.neat(), desk.deeds(), desk.kept(), desk.births(),
            [desk.state(name) for name in desk.kept()],
            desk.busy)


class DeskCase(Case):
    def state(self, wanted, lines, question, **most):
        """The state by the text and by codes, also by the slow reading."""
        with self.subTest(lines=lines, question=question, most=most):
            desk = Desk(lines, **most)
            before = looked(desk)
            for _ in range(2):
                self.assertEqual(desk.ask(question), wanted)
                self.assertEqual(desk.ask(question, by_codes=True), wanted)
                self.assertEqual(desk.ask(question, by_codes=False), wanted)
            self.assertIs(type(desk.ask(question)), tuple)
            self.assertEqual(looked(desk), before)
            operators = read_text(lines)[0]
            pattern, house = read_term(question, operators), slow_desk.house_of(lines)
            self.assertEqual(slow_desk.state_of(house, pattern, most.get("most", 200)), wanted)

    def question_refused(self, kind, fields, lines, question):
        """By all that asks a question, also again."""
        with self.subTest(lines=lines, question=question):
            desk = Desk(lines)
            before = looked(desk)
            for _ in range(2):
                for function, places in ((desk.ask, ()), (desk.paper, ()), (desk.why, (0,)), (desk.said, (0,))):
                    self.assert_refused(kind, fields, function, question, *places)
                self.assert_refused(kind, fields, desk.ask, question, by_codes=True)
                self.assert_refused(kind, fields, desk.keep, "kept", question)
            self.assertEqual(looked(desk), before)


class TextTest(DeskCase):
    def test_room(self):
        self.assertEqual(len(Desk([""] * 60).lines()), 60)
        self.assertEqual(Desk([]).lines(), [])
        for many in (61, 62, 100):
            self.assert_refused(NoRoom, {}, Desk, [""] * many)
            # It goes ahead of reading and looks.
            self.assert_refused(NoRoom, {}, Desk, ["07"] + [""] * (many - 1))
            self.assert_refused(NoRoom, {}, Desk, ["a"] + [""] * (many - 1))

    def test_reading_ahead_of_looks(self):
        self.assert_refused(BadPiece, {"line": 1, "place": 2}, Desk, ["a", "b 07"])
        self.assert_refused(BadShape, {"line": 1}, Desk, ["a", "b b"])
        self.assert_refused(BadSize, {"line": 1}, Desk, ["a", "b(" * 13 + "b" + ")" * 13])
        self.assert_refused(BadOperator, {"line": 1}, Desk, ["a b", "op 4 right plus"])
        self.assert_refused(Modeless, {"line": 0, "goal": 0}, Desk, ["a", "mode b(out)", "b(X)"])
        self.assert_refused(Ill, {"line": 1, "mode": "-", "goal": 1}, Desk, ["mode b(out)", "b(X)"])
        self.assert_refused(Mixed, {"line": 2}, Desk, ["mode a", "mode b", "a <- b", "b <- a", "table b 0"])
        self.assert_refused(Notring, {"line": 1}, Desk, ["mode a", "a <- not a"])

    def test_what_is_handed_in(self):
        lines = list(PATHS)
        desk = Desk(lines)
        lines[1] = "e(a, z)"
        lines.append("07")
        self.assertEqual(desk.lines(), PATHS)
        self.assertEqual(desk.ask("e(a, X)"), ("book", [("b",)]))
        desk.lines().append("e(a, zz)")
        desk.neat().clear()
        self.assertEqual(desk.lines(), PATHS)
        handed = list(PATHS)
        Desk(handed)
        self.assertEqual(handed, PATHS)

    def test_its_image_is_made_with_it(self):
        desk = Desk(PATHS)
        image = Image(Program(read_text(PATHS)[1]))
        for title, mode in (("e/2", "+-"), ("p/2", "+-")):
            self.assertEqual(desk.codes_of(title, mode), image.codes_of(title, mode))
        desk.codes_of("e/2", "+-")[0][1].clear()
        self.assertEqual(desk.codes_of("e/2", "+-"), image.codes_of("e/2", "+-"))
        for title, mode in (("e/2", "--"), ("e/2", ""), ("zz/0", ""), ("e", "+-")):
            self.assert_refused(NoCall, {}, desk.codes_of, title, mode)


class QuestionTest(DeskCase):
    def test_reading(self):
        self.question_refused(BadPiece, {"line": 0, "place": 4}, PATHS, "e(a,07)")
        self.question_refused(BadPiece, {"line": 0, "place": 2}, PATHS, "e(~, X)")
        self.question_refused(BadSize, {"line": 0}, PATHS, "e(" * 13 + "X" + ")" * 13)
        self.question_refused(BadSize, {"line": 0}, PATHS, "e(a, " + "f(" * 11 + "X" + ")" * 11 + ")")
        wide = "f(g(1, 2, 3, 4), g(1, 2, 3, 4), g(1, 2, 3, 4))"
        self.question_refused(BadSize, {"line": 0}, PATHS, f"e({wide}, {wide}, {wide}, {wide})")
        for question in ("", "e(a, X", "e(a X)", "e(a, X) <- e(a, X)", "e(a, X), e(a, X)", "not e(a, X)", "1 < 2",
                         "X in 1 .. 2",
                         "e(a, in)", "is", "e()", "Y = e"):
            self.question_refused(BadShape, {"line": 0}, PATHS, question)

    def test_patterns_that_are_no_relation_patterns(self):
        for question in ("1", "~5", "X", "(X)", "0"):
            self.question_refused(BadShape, {"line": 0}, PATHS, question)

    def test_relations_without_a_mode(self):
        for question in ("zz", "zz(a)", "e", "e(a)", "e(a, b, c)", "p", "1 + 2", "in1(X)"):
            self.question_refused(NoMode, {}, PATHS, question)
        self.question_refused(NoMode, {}, PATHS + ["table q 1"], "q(a)")
        for question in ("e(X, b)", "e(f(X), b)", "e(X, Y)", "p(X, X)"):
            self.question_refused(NoMode, {}, PATHS, question)
        # Reading goes ahead.
        self.question_refused(BadPiece, {"line": 0, "place": 0}, PATHS, "07")
        self.question_refused(BadShape, {"line": 0}, PATHS, "zz zz")

    def test_two_modes(self):
        lines = ["mode h(in, out)", "mode h(out, in)", "h(1, 2)", "h(3, 2)", "h(1, 4)"]
        self.state(("book", [(2,), (4,)]), lines, "h(1, X)")
        self.state(("book", [(1,), (3,)]), lines, "h(X, 2)")
        # The first that is known: its own plain search tells in its order.
        self.state(("book", [()]), lines, "h(1, 2)")
        self.question_refused(NoMode, {}, lines, "h(X, Y)")
        self.state(("book", [(1, 2), (3, 2), (1, 4)]), lines + ["mode h(out, out)"], "h(X, Y)")
        lines = ["mode h(out, in)", "mode h(in, out)", "h(X, Y) <- k(X, Y)", "mode k(out, in)", "mode k(in, out)",
                 "k(3, 1)", "k(2, 5) <- k(2, 5)"]
        self.state(("book", [(3,)]), lines, "h(X, 1)")
        self.state(("round",), lines, "h(2, X)")
        self.state(("book", [()]), lines, "h(3, 1)")

    def test_operators_of_the_text(self):
        lines = ["op 5 none to", "mode to(in, out)", "a to b", "a to c", "op 2 ahead the", "mode the(in)",
                 "the X <- X to Y"]
        self.state(("book", [("b",), ("c",)]), lines, "a to X")
        self.state(("book", [()]), lines, "the a")
        self.state(("book", []), lines, "the b")
        self.question_refused(BadShape, {"line": 0}, lines, "to(a, X)")
        self.question_refused(BadShape, {"line": 0}, PATHS, "a to X")


class StateTest(DeskCase):
    def test_books_rounds_and_open(self):
        self.state(("book", [("b",), ("c",)]), PATHS, "p(a, X)")
        self.state(("book", []), PATHS, "p(c, X)")
        self.state(("round",), RING, "p(a, X)")
        self.state(("round",), RING, "p(a, zz)")
        self.state(("book", [("a",), ("b",)]), RING + ["table p 2"], "p(a, X)")
        self.state(("open",), OPEN, "n(1, X)")

    def test_most(self):
        for most, wanted in ((16, ("book", [("b",), ("c",)])), (15, ("open",)), (200, ("book", [("b",), ("c",)])),
                             (1, ("open",))):
            self.state(wanted, PATHS, "p(a, X)", most=most)
        lines = ["mode a(in)"] + ["a(X) <- Y in 1 .. X, Y < 0"]
        self.state(("book", []), lines, "a(199)")
        self.state(("open",), lines, "a(200)")
        self.state(("book", []), ["mode a"], "a", most=1)

    def test_unknowns_that_come_again(self):
        lines = ["mode g(out, out, out)", "g(1, 2, 1)", "g(1, 1, 1)", "g(2, 2, 3)", "g(s(1), 2, 1)"]
        self.state(("book", [(1, 2), (1, 1)]), lines, "g(X, Y, X)")
        self.state(("book", [(1,)]), lines, "g(X, X, X)")
        self.state(("book", [(1, 1), (2, 3)]), lines, "g(Y, Y, X)")
        self.state(("book", [(1, 2, 1), (1, 1, 1), (2, 2, 3), (("s", 1), 2, 1)]), lines, "g(Z, Y, X)")

    def test_patterns_in_the_places(self):
        lines = ["mode g(out, out)", "g(s(1), 2)", "g(f(1, 3), 1)", "g(f(2, 3), 3)", "g(s(a), a)"]
        self.state(("book", [(1, 2), ("a", "a")]), lines, "g(s(X), Y)")
        self.state(("book", [("a",)]), lines, "g(s(X), X)")
        self.state(("book", [(1, 3)]), lines, "g(f(X, Y), X)")
        self.state(("book", [(2,)]), lines, "g(f(X, 3), 3)")
        self.state(("book", [(2, 3)]), lines, "g(f(X, Y), Y)")
        self.state(("book", []), lines, "g(s(X, Y), Z)")

    def test_without_unknowns(self):
        self.state(("book", [()]), PATHS, "p(a, c)")
        self.state(("book", []), PATHS, "p(a, a)")
        self.state(("book", [()]), ["mode a", "a", "a"], "a")
        self.state(("book", []), ["mode a"], "a")

    def test_answers_in_the_order_of_the_plain_search(self):
        lines = ["mode a(out)", "a(2)", "a(1)", "a(2)", "a(0) <- 1 < 2"]
        self.state(("book", [(2,), (1,), (0,)]), lines, "a(X)")
        self.state(("book", [(0,), (1,), (2,)]), lines + ["table a 1"], "a(X)")

    def test_states_that_are_told_are_the_askers_own(self):
        desk = Desk(PATHS)
        for by_codes in (False, True):
            for _ in range(2):
                state = desk.ask("p(a, X)", by_codes=by_codes)
                self.assertEqual(state, ("book", [("b",), ("c",)]))
                state[1].clear()


class PaperTest(DeskCase):
    def test_warrants_and_turns(self):
        for lines, question, call in ((PATHS, "p(a, X)", ("p/2", "+-", ("a",))),
                                      (PATHS, "p(a, b)", ("p/2", "+-", ("a",))),
                                      (RING + ["table p 2"], "p(b, X)", ("p/2", "+-", ("b",)))):
            desk, program = Desk(lines), Program(read_text(lines)[1])
            paper = desk.paper(question)
            self.assertEqual((type(paper), len(paper), paper[0]), (tuple, 3, "book"))
            self.assertTrue(warrant_holds(program, call, paper[1:]))
            self.assertEqual(paper[1], book_of(program, call))
        desk, program = Desk(RING), Program(read_text(RING)[1])
        for question in ("p(a, X)", "p(a, zz)"):
            paper = desk.paper(question)
            self.assertEqual((type(paper), len(paper), paper[0]), (tuple, 4, "round"))
            self.assertTrue(turn_holds(program, ("p/2", "+-", ("a",)), paper[1:]))
            self.assertEqual(paper[1], lot_of(program, ("p/2", "+-", ("a",))))

    def test_no_paper_where_the_state_is_open(self):
        for lines, question, most in ((OPEN, "n(1, X)", 200), (PATHS, "p(a, X)", 15), (RING, "p(a, X)", 3)):
            desk = Desk(lines, most=most)
            self.assertEqual(desk.ask(question), ("open",))
            for _ in range(2):
                self.assert_refused(NoPaper, {}, desk.paper, question)
        self.assertEqual(Desk(PATHS, most=16).paper("p(a, X)")[0], "book")

    def test_papers_that_are_told_are_the_askers_own(self):
        for lines in (PATHS, RING):
            desk = Desk(lines)
            wanted = repr(desk.paper("p(a, X)"))
            for part in desk.paper("p(a, X)")[1:]:
                for thing in part:
                    if len(thing) == 2:
                        thing[1].clear()
                part.clear()
            self.assertEqual(repr(desk.paper("p(a, X)")), wanted)


SAYING = [
    "op 5 none to", "mode to(in, out)", "mode e(in, out)", "e(a, b + 1 - 2)", "e(b + 1 - 2, ~3)",
    "X to Y <- e(X, Y)", "X to Z <- e(X, Y), Y to Z", "mode f(in, out)",
    "f(X, Y) <- X to Z, Y in 1 .. 3 such Y =/= 2, e(X, Z), not e(Y, Z), X to Z", "mode zz", "zz",
]


class GroundsTest(DeskCase):
    def test_grounds_of_each_answer(self):
        for lines, question in ((PATHS, "p(a, X)"), (SAYING, "f(a, X)"), (RING + ["table p 2"], "p(a, X)")):
            desk, program = Desk(lines), Program(read_text(lines)[1])
            pattern = read_term(question, read_text(lines)[0])
            call = slow_desk.call_of(slow_desk.house_of(lines), pattern)
            _, answers = desk.ask(question)
            self.assertGreater(len(answers), 1)
            for number, answer in enumerate(answers):
                steps = desk.why(question, number)
                self.assertIs(type(steps), list)
                self.assertEqual(steps[-1][:2], (call, answer))
                for at in range(len(steps)):
                    self.assertTrue(step_holds(program, lot_of(program, call), steps, at))
                self.assertEqual(desk.why(question, number), steps)

    def test_the_row_of_an_answer(self):
        lines = ["mode g(out, out)", "g(1, 2)", "g(2, 2)", "g(s(3), s(3))", "g(3, 1)"]
        desk = Desk(lines)
        self.assertEqual(desk.why("g(X, X)", 1), [(("g/2", "--", ()), (("s", 3), ("s", 3)), 3, ())])
        self.assertEqual(desk.why("g(X, 1)", 0), [(("g/2", "--", ()), (3, 1), 4, ())])
        self.assertEqual(desk.why("g(2, 2)", 0), [(("g/2", "--", ()), (2, 2), 2, ())])

    def test_no_answer(self):
        for lines, question, numbers in ((PATHS, "p(a, X)", (-1, -2, 2, 3, BIG, -BIG)), (PATHS, "p(c, X)", (0, 1, -1)),
                                         (PATHS, "p(a, b)", (1, -1)), (RING, "p(a, X)", (0, 1, -1)),
                                         (OPEN, "n(1, X)", (0, -1))):
            desk = Desk(lines)
            for number in numbers:
                with self.subTest(lines=lines, question=question, number=number):
                    for _ in range(2):
                        self.assert_refused(NoAnswer, {}, desk.why, question, number)
                        self.assert_refused(NoAnswer, {}, desk.said, question, number)
        # Behind what the question is refused by.
        for question, kind in (("07", BadPiece), ("zz zz", BadShape), ("zz", NoMode), ("p(X, a)", NoMode)):
            for number in (-1, 0, BIG):
                self.assert_refused(kind, {}, Desk(PATHS).why, question, number)
                self.assert_refused(kind, {}, Desk(PATHS).said, question, number)

    def test_said(self):
        self.assertEqual(Desk(PATHS).said("e(a, X)", 0), ["e(a, b) by 1"])
        self.assertEqual(Desk(PATHS).said("p(a, X)", 0), ["e(a, b) by 1", "p(a, b) by 4 from 0"])
        told = Desk(PATHS).said("p(a, X)", 1)
        self.assertEqual(len(told), 4)
        self.assertEqual(told[-1].partition(" from ")[0], "p(a, c) by 5")
        self.assertEqual(Desk(["mode a", "a <- b, c, b", "mode b", "b <- c", "mode c", "c"]).said("a", 0),
                         ["c by 5", "b by 3 from 0", "a by 1 from 1, 0, 1"])

    def test_said_by_the_texts_operators_with_marks_that_name_steps(self):
        desk = Desk(SAYING)
        told = desk.said("f(a, X)", 1)
        texts = [(text.partition(" by ")[0], text.partition(" by ")[2].partition(" from ")) for text in told]
        facts = [fact for fact, _ in texts]
        self.assertEqual(facts[-1], "f(a, 3)")
        self.assertIn("e(a, b + 1 - 2)", facts)
        self.assertIn("a to b + 1 - 2", facts)
        number = {fact: str(at) for at, fact in enumerate(facts)}
        # A field's point and what stands at a not name no step.
        wanted = ", ".join([number["a to b + 1 - 2"], number["e(a, b + 1 - 2)"], number["a to b + 1 - 2"]])
        self.assertEqual(texts[-1][1], ("8", " from ", wanted))
        self.assertEqual(desk.said("zz", 0), ["zz by 10"])
        self.assertEqual(desk.said("b + 1 - 2 to X", 0), ["e(b + 1 - 2, ~3) by 4", "b + 1 - 2 to ~3 by 5 from 0"])
        self.assert_new_each_time(desk.said, "zz", 0)
        self.assert_new_each_time(desk.why, "zz", 0)
        lines = ["mode a(in, out)", "a(X, Y) <- Y in X .. 3 and Z in 1 .. 2 such Z == 2"]
        self.assertEqual(Desk(lines).said("a(2, X)", 1), ["a(2, 3) by 1"])
        self.assertEqual(Desk(lines).why("a(2, X)", 1), [(("a/2", "+-", (2,)), (3,), 1, ((3, 2),))])

    def test_lines_as_the_text_stands_then(self):
        desk = Desk(PATHS)
        desk.put(0, "")
        self.assertEqual(desk.said("p(a, X)", 0), ["e(a, b) by 2", "p(a, b) by 5 from 0"])
        desk.cut(0)
        desk.put(1, "e(a, a0)")
        self.assertEqual(desk.said("e(a, X)", 1), ["e(a, b) by 2"])
        desk.undo()
        self.assertEqual(desk.said("e(a, X)", 0), ["e(a, b) by 1"])


class DeedTest(DeskCase):
    def test_puts(self):
        desk = Desk(["mode a(out)", "a(1)"])
        for at, line, wanted in ((2, "a(2)", ["mode a(out)", "a(1)", "a(2)"]),
                                 (0, "a(0)", ["a(0)", "mode a(out)", "a(1)", "a(2)"]),
                                 (3, " a( 5 )", ["a(0)", "mode a(out)", "a(1)", " a( 5 )", "a(2)"]),
                                 (5, "", ["a(0)", "mode a(out)", "a(1)", " a( 5 )", "a(2)", ""])):
            desk.put(at, line)
            self.assertEqual(desk.lines(), wanted)
            self.assertEqual(desk.ask("a(X)"), Desk(wanted).ask("a(X)"))
        self.assertEqual(desk.deeds(), 4)

    def test_cuts_and_changes(self):
        desk = Desk(["a(1)", "mode a(out)", "a(2)", "a(3)"])
        desk.cut(3)
        self.assertEqual(desk.lines(), ["a(1)", "mode a(out)", "a(2)"])
        desk.cut(0)
        self.assertEqual(desk.lines(), ["mode a(out)", "a(2)"])
        desk.change(1, "a(7)")
        self.assertEqual(desk.lines(), ["mode a(out)", "a(7)"])
        desk.cut(1)
        desk.change(0, "mode b(out)")
        self.assertEqual(desk.lines(), ["mode b(out)"])
        self.assert_refused(NoMode, {}, desk.ask, "a(X)")
        self.assertEqual(desk.ask("b(X)"), ("book", []))
        desk.cut(0)
        self.assertEqual((desk.lines(), desk.deeds()), ([], 6))

    def test_places(self):
        desk = Desk(PATHS)
        for at in (-1, -7, 7, 8, BIG, -BIG):
            self.assert_refused(NoPlace, {}, desk.put, at, "")
        for at in (-1, -6, 6, 7, BIG, -BIG):
            self.assert_refused(NoPlace, {}, desk.cut, at)
            self.assert_refused(NoPlace, {}, desk.change, at, "")
        for at in (0, 6):
            Desk(PATHS).put(at, "")
        for at in (0, 5):
            Desk(PATHS).change(at, "mode e(in, out)" if at == 0 else "")
        Desk(PATHS).cut(5)
        for function, places in ((Desk([]).cut, (0,)), (Desk([]).change, (0, "")), (Desk([]).put, (1, ""))):
            self.assert_refused(NoPlace, {}, function, *places)
        self.assertEqual(desk.deeds(), 0)

    def test_which_refusal_goes_first(self):
        desk = Desk(["mode a", "a"] + [""] * 58)
        for at in (-1, 61):
            self.assert_refused(NoPlace, {}, desk.put, at, "07")
        for at in (0, 30, 60):
            for line in ("", "07", "b b", "b"):
                self.assert_refused(NoRoom, {}, desk.put, at, line)
        for at in (-1, 60):
            self.assert_refused(NoPlace, {}, desk.change, at, "07")
        self.assert_refused(BadPiece, {"line": 5, "place": 0}, desk.change, 5, "07")
        self.assert_refused(BadShape, {"line": 5}, desk.change, 5, "b b")
        self.assert_refused(Modeless, {"line": 5, "goal": 0}, desk.change, 5, "b")
        self.assert_refused(Modeless, {"line": 0, "goal": 0}, desk.cut, 0)
        desk.cut(59)
        self.assert_refused(BadPiece, {"line": 59, "place": 0}, desk.put, 59, "07")
        desk.put(59, "")
        self.assertEqual(len(desk.lines()), 60)
        self.assert_refused(NoRoom, {}, desk.put, 0, "")

    def test_the_text_as_it_would_be_is_refused(self):
        desk = Desk(["op 5 left to", "mode a(in)", "a(X) <- X = b to c to d"])
        self.assert_refused(BadShape, {"line": 1}, desk.cut, 0)
        self.assert_refused(BadShape, {"line": 2}, desk.change, 0, "op 5 none to")
        self.assert_refused(BadOperator, {"line": 3}, desk.put, 3, "op 6 none to")
        self.assert_refused(Modeless, {"line": 1, "goal": 0}, desk.cut, 1)
        desk = Desk(["mode a", "mode b", "a <- not b", "b <- c", "mode c"])
        self.assert_refused(Notring, {"line": 2}, desk.put, 5, "c <- a")
        self.assert_refused(Notring, {"line": 3}, desk.put, 0, "c <- a")
        self.assert_refused(Mixed, {"line": 2}, Desk(["mode a", "mode b", "a <- b", "b <- a"]).put, 4, "table b 0")
        desk.put(0, "")

    def test_undo_and_again(self):
        desk = Desk([])
        texts = [[]]
        for at, line in enumerate(["mode a(out)", "a(1)", "a(2)"]):
            desk.put(at, line)
            texts.append(desk.lines())
        desk.change(1, "a(5)")
        texts.append(desk.lines())
        desk.cut(2)
        texts.append(desk.lines())
        for number in (4, 3, 2, 1, 0):
            desk.undo()
            self.assertEqual(desk.lines(), texts[number])
        self.assert_refused(NoStep, {}, desk.undo)
        for number in (1, 2, 3, 4, 5):
            desk.again()
            self.assertEqual(desk.lines(), texts[number])
        self.assert_refused(NoStep, {}, desk.again)
        self.assertEqual(desk.deeds(), 15)
        desk.undo()
        desk.undo()
        desk.again()
        desk.undo()
        self.assertEqual(desk.lines(), texts[3])
        # A new deed makes what was undone be forgotten, but not what was done.
        desk.put(0, "")
        self.assert_refused(NoStep, {}, desk.again)
        desk.undo()
        desk.undo()
        self.assertEqual(desk.lines(), texts[2])
        desk.again()
        self.assertEqual(desk.lines(), texts[3])
        self.assertEqual(desk.ask("a(X)"), ("book", [(1,), (2,)]))

    def test_at_nothing(self):
        desk = Desk(PATHS)
        for _ in range(2):
            self.assert_refused(NoStep, {}, desk.undo)
            self.assert_refused(NoStep, {}, desk.again)
        desk.put(0, "")
        self.assert_refused(NoStep, {}, desk.again)

    def test_a_deed_by_which_the_text_stays_counts_one(self):
        desk = Desk(PATHS)
        self.assertEqual(desk.change(1, "e(a, b)"), ([], []))
        self.assertEqual((desk.lines(), desk.deeds()), (PATHS, 1))
        desk.cut(5)
        desk.undo()
        self.assertEqual((desk.lines(), desk.deeds()), (PATHS, 3))
        desk.undo()
        self.assertEqual((desk.lines(), desk.deeds()), (PATHS, 4))
        self.assert_refused(NoStep, {}, desk.undo)
        desk.again()
        desk.again()
        self.assertEqual((desk.lines(), desk.deeds()), (PATHS[:5], 6))
        self.assert_refused(NoStep, {}, desk.again)

    def test_only_deeds_count(self):
        desk = Desk(PATHS)
        desk.keep("k", "p(a, X)")
        desk.ask("p(a, X)")
        desk.paper("p(a, X)")
        desk.said("p(a, X)", 0)
        desk.drop("k")
        self.assert_refused(NoPlace, {}, desk.cut, 9)
        self.assertEqual(desk.deeds(), 0)

    def test_refused_deeds_leave_all_as_it_was(self):
        desk = Desk(PATHS)
        desk.keep("one", "p(a, X)")
        desk.keep("two", "e(zz, X)")
        desk.put(6, "e(c, d)")
        desk.put(7, "e(d, x)")
        desk.undo()
        before = looked(desk)
        codes = desk.codes_of("e/2", "+-")
        for kind, function, places in ((BadPiece, desk.put, (0, "07")), (BadShape, desk.put, (0, "b b")),
                                       (NoPlace, desk.put, (9, "")),
                                       (Modeless, desk.put, (0, "b")), (NoPlace, desk.cut, (7,)),
                                       (Modeless, desk.cut, (0,)),
                                       (BadPiece, desk.change, (6, "~")), (Modeless, desk.change, (0, "")),
                                       (NoPlace, desk.change, (-1, "")),
                                       (Taken, desk.keep, ("one", "07")), (BadPiece, desk.keep, ("new", "07")),
                                       (NoMode, desk.keep, ("new", "zz")), (NoName, desk.drop, ("new",)),
                                       (NoName, desk.state, ("new",)),
                                       (NoMode, desk.ask, ("zz",)), (NoAnswer, desk.why, ("p(a, X)", 7))):
            self.assert_refused(kind, {}, function, *places)
            self.assertEqual(looked(desk), before)
            self.assertEqual(desk.codes_of("e/2", "+-"), codes)
            self.assertEqual(desk.ask("p(a, X)"), desk.ask("p(a, X)", by_codes=True))
        # Undo and again go on as if nothing had been.
        desk.again()
        self.assertEqual(desk.lines(), [*PATHS, "e(c, d)", "e(d, x)"])
        desk.undo()
        self.assert_refused(BadPiece, {}, desk.put, 0, "07")
        desk.undo()
        self.assertEqual(desk.lines(), PATHS)
        desk.again()
        desk.again()
        self.assertEqual(desk.lines(), [*PATHS, "e(c, d)", "e(d, x)"])
        self.assert_refused(NoStep, {}, desk.again)

    def test_triples_of_the_image(self):
        desk = Desk(PATHS)
        self.assertEqual(desk.put(0, ""), ([], []))
        self.assertEqual(desk.put(0, "e(z, z)"), ([], [(0, "e/2", "+-")]))
        self.assertEqual(desk.put(8, "mode e(out, out)"), ([], [(0, "e/2", "--"), (3, "e/2", "--"), (4, "e/2", "--"),
                                                                    (6, "p/2", "+-"), (7, "p/2", "+-")]))
        self.assertEqual(desk.undo(), ([], [(6, "p/2", "+-"), (7, "p/2", "+-")]))
        self.assertEqual(desk.again()[1],
                         [(0, "e/2", "--"), (3, "e/2", "--"), (4, "e/2", "--"), (6, "p/2", "+-"), (7, "p/2", "+-")])
        told = desk.cut(0)
        self.assertEqual((type(told), [type(part) for part in told]), (tuple, [list, list]))
        self.assertEqual(told, ([], []))
        image = Image(Program(read_text(desk.lines())[1]))
        for title, mode in (("e/2", "+-"), ("e/2", "--"), ("p/2", "+-")):
            self.assertEqual(desk.codes_of(title, mode), image.codes_of(title, mode))


class LogTest(DeskCase):
    def test_done_and_refused(self):
        desk, wanted = Desk(PATHS), []
        self.assertEqual((desk.log(), desk.busy), ([], False))
        for word, places, kind in (("put", (0, ""), None), ("put", (99, ""), NoPlace), ("cut", (0,), None),
                                   ("cut", (-1,), NoPlace),
                                   ("change", (1, "e(a, x)"), None), ("change", (1, "07"), BadPiece),
                                   ("undo", (), None),
                                   ("again", (), None), ("again", (), NoStep), ("keep", ("k", "p(a, X)"), None),
                                   ("keep", ("k", "07"), Taken), ("keep", ("l", "07"), BadPiece),
                                   ("drop", ("l",), NoName),
                                   ("drop", ("k",), None), ("put", (0, "mode zz"), None), ("cut", (1,), Modeless)):
            self.assertIs(desk.busy, False)
            if kind is None:
                getattr(desk, word)(*places)
            else:
                self.assert_refused(kind, {}, getattr(desk, word), *places)
            wanted += [word, "end"]
            self.assertEqual(desk.log(), wanted)
            self.assertIs(desk.busy, False)
        for _ in range(3):
            self.assert_refused(NoStep, {}, desk.again)
        self.assertEqual(desk.log(), wanted + ["again", "end"] * 3)

    def test_what_is_not_told_there(self):
        desk = Desk(PATHS)
        for function, places in ((desk.ask, ("p(a, X)",)), (desk.paper, ("p(a, X)",)), (desk.why, ("p(a, X)", 0)),
                                 (desk.said, ("p(a, X)", 0)), (desk.lines, ()), (desk.neat, ()), (desk.deeds, ()),
                                 (desk.kept, ()), (desk.births, ()), (desk.codes_of, ("p/2", "+-")), (desk.log, ())):
            function(*places)
        for function, places in ((desk.state, ("k",)), (desk.birth, ("k",)), (desk.ask, ("07",))):
            self.assertRaises(GoalError, function, *places)
        self.assertEqual((desk.log(), desk.busy), ([], False))
        desk.log().append("mine")
        self.assertEqual(desk.log(), [])

    def test_busy_while_at_work(self):
        """A line or a name that looks at the desk when it is come to."""
        seen, desk = [], None

        class Looking(str):
            def __len__(self):
                seen.append((desk.busy, desk.log()))
                return str.__len__(self)

            def __hash__(self):
                seen.append((desk.busy, desk.log()))
                return str.__hash__(self)

        desk = Desk(PATHS)
        desk.put(0, Looking(""))
        self.assertIn((True, ["put"]), seen)
        desk.change(0, Looking(" "))
        self.assertIn((True, ["put", "end", "change"]), seen)
        desk.keep(Looking("k"), "p(a, X)")
        self.assertIn((True, ["put", "end", "change", "end", "keep"]), seen)
        self.assertIs(desk.busy, False)


class NeatTest(DeskCase):
    def test_the_neat_text(self):
        lines = ["  op 5 none to", "", "mode   to( in ,out )", "table to   2", "a to ((b))",
                 "to1(X)<-X=(1+2)*3,not(X to Y)", "mode to1(in)",
                 "mode  k", "k <- (1) < (2)", "f(X) <- X in(1)..(2)such(X<2)", "mode f(out)"]
        desk = Desk(lines)
        self.assertEqual(desk.neat(), ["op 5 none to", "", "mode to(in, out)", "table to 2", "a to b",
                                       "to1(X) <- X = (1 + 2) * 3, not X to Y", "mode to1(in)", "mode k", "k <- 1 < 2",
                                       "f(X) <- X in 1 .. 2 such X < 2", "mode f(out)"])
        self.assertEqual(desk.lines(), lines)
        self.assertEqual(read_text(desk.neat()), read_text(lines))
        other = Desk(desk.neat())
        self.assertEqual(other.neat(), desk.neat())
        self.assertEqual(other.ask("a to X"), desk.ask("a to X"))

    def test_two_desks_of_one_text_edited_by_turns(self):
        one, two = Desk(PATHS), Desk(PATHS)
        one.keep("k", "p(a, X)")
        self.assertEqual((two.kept(), two.log()), ([], []))
        one.put(6, "e(c, d)")
        two.cut(2)
        self.assertEqual(one.ask("p(a, X)"), ("book", [("b",), ("c",), ("d",)]))
        self.assertEqual(two.ask("p(a, X)"), ("book", [("b",)]))
        two.keep("k", "p(b, X)")
        one.change(1, "e(a, z)")
        self.assertEqual((one.state("k"), two.state("k")), (("book", [("z",)]), ("book", [])))
        two.undo()
        self.assertEqual((one.lines()[1], two.lines()), ("e(a, z)", PATHS))
        self.assert_refused(NoStep, {}, two.undo)
        one.undo()
        one.undo()
        self.assertEqual((one.lines(), one.deeds(), two.deeds()), (PATHS, 4, 2))
        self.assertEqual((one.births(), two.births()), ({"k": 4}, {"k": 2}))
        self.assertEqual(len(one.codes_of("e/2", "+-")), 2)
        two.put(0, "e(q, q)")
        self.assertEqual((len(one.codes_of("e/2", "+-")), len(two.codes_of("e/2", "+-"))), (2, 3))


if __name__ == "__main__":
    unittest.main()
