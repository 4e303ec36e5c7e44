"""[1] to [4]: the three things that are told are the same in every way, over drawn programs, edits and papers."""

import time
import unittest

from goalstead import errors
from goalstead.books import answers_of
from goalstead.desk import Desk
from goalstead.errors import GoalError
from goalstead.image import Image
from goalstead.lookers import step_holds, turn_holds, warrant_holds
from goalstead.lots import lot_of, verdict_of
from goalstead.program import Program
from goalstead.reader import read_text
from goalstead.writer import written, written_line
from tests import slow, slow_desk
from tests.chance import Maker
from tests.helpers import Case
from tests.test_kept import KeptCase

WELL = ["mode r(in, out)", "r(X, Y) <- Z is (X + 1) mod 4, r(Z, Y)", "r(2, end)", "r(X, X) <- X in 0 .. 3"]


def drawn(seed):
    """A maker whose program is let by, and its lines as they are written."""
    while True:
        maker = Maker(seed)
        if slow.House(maker.rows).refusal is None:
            return maker, [written_line(row, []) for row in maker.rows]
        seed += 100000


def question_of(maker):
    """A pattern that asks one of the maker's relations in one of its modes."""
    name = maker.random.choice(maker.names)
    mode = maker.random.choice(maker.modes[name])
    parts = [maker.random.choice([0, 1, 2, "a", "b", ("s", 0)]) if sign == "+" or maker.random.random() < 0.15
             else maker.random.choice(["X", "Y", "Z", "X", ("s", "Y")]) for sign in mode]
    return maker.tuple_of(name, parts)


class SameCase(Case):
    def same_everywhere(self, desk, lines, pattern):
        """The state of a question by the text, by codes, by the edited desk and by the slow reading; and its paper."""
        question = written(pattern, [])
        fresh, program = Desk(lines), Program(read_text(lines)[1])
        house = slow_desk.house_of(lines)
        call, wanted = slow_desk.call_of(house, pattern), slow_desk.state_of(house, pattern, 200)
        if call is None:
            self.assertRaises(errors.NoMode, desk.ask, question)
            return "lost"
        for each in (desk, fresh):
            self.assertEqual(each.ask(question), wanted)
            self.assertEqual(each.ask(question, by_codes=True), wanted)
        self.assertEqual(verdict_of(program, call), wanted[0])
        self.assertEqual(verdict_of(Image(program), call), wanted[0])
        self.papers(desk, program, house, call, question, wanted)
        return wanted[0]

    def papers(self, desk, program, house, call, question, wanted):
        if wanted[0] == "open":
            self.assertRaises(errors.NoPaper, desk.paper, question)
            return
        paper = desk.paper(question)
        self.assertEqual(paper[0], wanted[0])
        if wanted[0] == "round":
            self.assertTrue(turn_holds(program, call, paper[1:]))
            self.assertTrue(house.turn_holds(call, paper[1:]))
            return
        self.assertTrue(warrant_holds(program, call, paper[1:]))
        self.assertTrue(house.warrant_holds(call, paper[1:]))
        self.assertEqual(dict(paper[1])[call], answers_of(program, call))
        lot = lot_of(program, call)
        for number in range(len(wanted[1]))[:3]:
            steps = desk.why(question, number)
            self.assertTrue(all(step_holds(program, lot, steps, at) for at in range(len(steps))))
            self.assertEqual(len(desk.said(question, number)), len(steps))


class DrawnTest(SameCase):
    def edited(self, maker, lines):
        """A desk that comes to these lines by edits, some of them undone or refused."""
        desk, there = Desk([]), []
        order = sorted(range(len(lines)), key=lambda at: (lines[at].partition(" ")[0] not in ("mode", "op"),
                                                           lines[at].partition(" ")[0] != "table",
                                                          maker.random.random()))
        for at in order:
            place = len([other for other in there if other < at])
            if maker.random.random() < 0.3:
                self.detour(maker, desk, lines)
            desk.put(place, lines[at])
            there.append(at)
        self.assertEqual(desk.lines(), lines)
        return desk

    def detour(self, maker, desk, lines):
        """Deeds behind which the text is as it was."""
        before = desk.lines()
        for word, *places in (("put", 0, maker.random.choice(lines)), ("cut", 0),
                              ("change", 0, maker.random.choice(lines))):
            try:
                getattr(desk, word)(*places)
                desk.undo()
            except GoalError:
                pass
        self.assertEqual(desk.lines(), before)

    def test_by_the_text_by_codes_and_by_edits(self):
        seen = {}
        for seed in range(7000, 7140):
            maker, lines = drawn(seed)
            desk = self.edited(maker, lines)
            for _ in range(3):
                seen[self.same_everywhere(desk, lines, question_of(maker))] = True
            neat = desk.neat()
            self.assertEqual(neat, lines)
            self.assertEqual(Desk(neat).neat(), neat)
            self.assertEqual(read_text(neat)[1], maker.rows)
        for seed in range(3):
            desk = Desk(WELL)
            for pattern in (("r", seed, "X"), ("r", 5, "X")):
                seen[self.same_everywhere(desk, WELL, pattern)] = True
        counting = ["mode n(in, out)", "n(X, X)", "n(X, Y) <- Z is X + 1, n(Z, Y)"]
        seen[self.same_everywhere(Desk(counting), counting, ("n", 1, "X"))] = True
        self.assertEqual(sorted(set(seen) - {"lost"}), ["book", "open", "round"])


class EditedTest(KeptCase, SameCase):
    """Deeds by chance, refused or done, with kept questions; everything beside a slow desk."""

    def line(self, maker, lines):
        kind = maker.random.choice(["fact", "clause", "mode", "table", "blank", "old", "bad", "op"])
        name = maker.random.choice(maker.names)
        if kind == "fact":
            return written(maker.fact(maker.random.choice("ef"))[1], [])
        if kind == "clause":
            return written_line(maker.clause(name), [])
        if kind == "mode":
            return written_line(("mode", name, maker.random.choice(maker.modes[name])), [])
        if kind == "table":
            return f"table {name} {len(maker.modes[name][0])}"
        if kind == "old" and lines:
            return maker.random.choice(lines)
        return {"bad": maker.random.choice(["07", "a a", "X"]), "op": "op 5 none to"}.get(kind, "")

    def deed(self, maker, lines):
        word = maker.random.choice(["put", "put", "cut", "change", "undo", "again"])
        many = len(lines)
        if word == "put":
            return word, maker.random.randint(-1, many + 1), self.line(maker, lines)
        if word == "cut":
            return word, maker.random.randint(-1, many)
        return (word, maker.random.randint(-1, many), self.line(maker, lines)) if word == "change" else (word,)

    def slowly_refused(self, word, *places):
        """The name of the refusal that the document tells for a deed, or None."""
        many = len(self.slow.lines)
        if word in ("undo", "again"):
            return None if (self.slow.done if word == "undo" else self.slow.undone) else "NoStep"
        if not 0 <= places[0] <= (many if word == "put" else many - 1):
            return "NoPlace"
        lines = self.slow.deed(word, *places)
        if len(lines) > 60:
            return "NoRoom"
        try:
            rows = read_text(lines)[1]
        except GoalError as error:
            return type(error).__name__
        refusal = slow.House(rows).refusal
        return refusal and refusal[0]

    def test_deeds_by_chance(self):
        words = {}
        for seed in range(7300, 7330):
            maker, lines = drawn(seed)
            self.desk(lines)
            for number in range(30):
                if number % 8 == 0:
                    self.keep_one(maker, f"k{number}")
                deed = self.deed(maker, self.slow.lines)
                refusal = self.slowly_refused(*deed)
                words[refusal or deed[0]] = True
                if refusal is None:
                    self.do(*deed)
                else:
                    before = (self.quick.lines(), self.quick.births(), self.quick.deeds())
                    self.assert_refused(getattr(errors, refusal), {}, getattr(self.quick, deed[0]), *deed[1:])
                    self.assertEqual((self.quick.lines(), self.quick.births(), self.quick.deeds()), before)
                self.assertEqual(self.quick.deeds(), self.slow.many)
            self.same_everywhere(self.quick, self.quick.lines(), question_of(maker))
            image = Image(Program(read_text(self.quick.lines())[1]))
            for title in Program(read_text(self.quick.lines())[1]).titles():
                for mode in image.modes(title):
                    self.assertEqual(self.quick.codes_of(title, mode), image.codes_of(title, mode))
        for word in ("put", "cut", "change", "undo", "again", "NoStep", "NoPlace", "BadPiece", "BadShape", "Modeless",
                     "Ill"):
            self.assertIn(word, words)

    def keep_one(self, maker, name):
        pattern = question_of(maker)
        if slow_desk.call_of(slow_desk.house_of(self.slow.lines), pattern) is None:
            self.assert_refused(errors.NoMode, {}, self.quick.keep, name, written(pattern, []))
        else:
            self.keep(name, written(pattern, []))


class RefusalTest(Case):
    def test_each_class_stands_straight_beneath_goal_error(self):
        for name in dir(errors):
            kind = getattr(errors, name)
            if isinstance(kind, type) and kind.__module__ == errors.__name__ and kind is not GoalError:
                self.assertEqual(kind.__bases__, (GoalError,))
        self.assertEqual(GoalError.__bases__, (ValueError,))

    def test_a_desk_that_was_refused_may_be_made_again(self):
        lines = ["mode a", "a <- b"]
        for _ in range(2):
            self.assert_refused(errors.Modeless, {"line": 1, "goal": 1}, Desk, lines)
        lines.append("mode b")
        self.assertEqual(Desk(lines).ask("a"), ("book", []))


class LongTest(KeptCase):
    """Long but promised inputs end in seconds."""

    def test_a_hundred_deeds_with_kept_questions(self):
        began = time.monotonic()
        goals = ", ".join(["e(X, f(A, B, c, f(d, C, f(g, h))))"] * 5)
        lines = ["mode e(in, out)", "mode p(in, out)"] + [f"p(X, Y) <- {goals}, e(X, Y)"] * 50 + ["e(a, b)", "e(b, c)"]
        desk = Desk(lines)
        for number in range(20):
            desk.keep(f"k{number}", f"p(a, X{number})")
        for number in range(50):
            desk.put(number, "e(a, b)" if number % 10 == 0 else "")
            desk.undo()
        self.assertEqual((desk.deeds(), desk.state("k7")), (100, ("book", [])))
        self.assertLess(time.monotonic() - began, 30)

    def test_lots_near_two_hundred_things_at_each_deed(self):
        began = time.monotonic()
        lines = ["mode a(out)", "table a 1", "a(0)", "a(Y) <- a(X), Y is X + 1, Y < 48", "mode n(in)",
                 "n(X) <- Y is X + 1, n(Y)"]
        desk = Desk(lines)
        desk.keep("all", "a(X)")
        desk.keep("last", "a(47)")
        desk.keep("open", "n(0)")
        for _ in range(25):
            self.assertEqual(desk.cut(2)[0], [("all", ("book", [])), ("last", ("book", []))])
            desk.put(2, "a(1)")
            desk.change(2, "a(0)")
            desk.put(2, "mode zz")
            desk.undo()
        self.assertEqual(desk.deeds(), 125)
        self.assertEqual(desk.state("all"), ("book", [(number,) for number in range(48)]))
        self.assertEqual(desk.births()["open"], 125)
        self.assertEqual(len(desk.paper("a(X)")[2]), 48)
        self.assertEqual(len(desk.why("a(X)", 47)), 48)
        self.assertLess(time.monotonic() - began, 30)

    def test_wide_lots(self):
        began = time.monotonic()
        ring = ["mode a(in, in)"] + [f"a(X, Y) <- a({number}, Y)" for number in range(14)]
        ring += [f"a(X, Y) <- a(X, {number})" for number in range(14)]
        self.assertEqual(Desk(ring).ask("a(0, 0)"), ("round",))
        self.assertEqual(Desk(ring).paper("a(0, 0)")[0], "round")
        steps = [("f(" * up + "X" + ")" * up, "f(" * over + "Y" + ")" * over) for up in range(8) for over in range(8)]
        down = ["mode a(in, in)"] + [f"a({one}, {two}) <- a(X, Y)" for one, two in steps[1:58]]
        question = f"a({'f(' * 10}z{')' * 10}, {'f(' * 10}z{')' * 10})"
        for by_codes in (False, True):
            self.assertEqual(Desk(down).ask(question, by_codes=by_codes), ("book", []))
        self.assertEqual(Desk(down).paper(question)[0], "book")
        self.assertLess(time.monotonic() - began, 30)


if __name__ == "__main__":
    unittest.main()
