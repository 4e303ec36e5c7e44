"""[70] to [72]: kept questions, their births, and the news of deeds."""

import unittest

from goalstead.desk import Desk
from goalstead.errors import BadPiece, BadShape, BadSize, NoMode, NoName, NoPlace, NoStep, Taken
from goalstead.reader import read_term, read_text
from tests import slow_desk
from tests.helpers import Case
from tests.test_desk import OPEN, PATHS, RING


class KeptCase(Case):
    """A desk beside a slow one; each deed's news, states and births are held against the slow desk's."""

    def desk(self, lines, **kept):
        self.quick, self.slow = Desk(lines), slow_desk.SlowDesk(lines)
        for name, question in kept.items():
            self.keep(name, question)

    def keep(self, name, question):
        told = self.quick.keep(name, question)
        self.slow.keep(name, read_term(question, read_text(self.slow.lines)[0]))
        self.assertEqual(told, self.slow.kept[name][1])

    def do(self, word, *places, news=None, births=None):
        """Does a deed; the news and the births are those of the slow desk, and those that are wanted."""
        with self.subTest(word=word, places=places):
            told, _ = getattr(self.quick, word)(*places)
            self.assertEqual(told, self.slow.do(word, *places))
            self.assertEqual(self.quick.lines(), self.slow.lines)
            self.assertEqual(self.quick.births(), {name: kept[2] for name, kept in self.slow.kept.items()})
            for name, (_, state, birth) in self.slow.kept.items():
                self.assertEqual((self.quick.state(name), self.quick.birth(name)), (state, birth))
            if news is not None:
                self.assertEqual(told, news)
            if births is not None:
                self.assertEqual(self.quick.births(), births)


class KeepTest(Case):
    def test_names(self):
        desk = Desk(PATHS)
        self.assertEqual(desk.keep("b", "p(a, X)"), ("book", [("b",), ("c",)]))
        self.assertEqual(desk.keep("a", "p(a, c)"), ("book", [()]))
        for name in ("op", "is", "w", "a2345678901b", "x1"):
            desk.keep(name, "e(a, X)")
        self.assertEqual(desk.kept(), ["b", "a", "op", "is", "w", "a2345678901b", "x1"])
        desk.drop("a")
        self.assertIsNone(desk.drop("op"))
        self.assertEqual(desk.kept(), ["b", "is", "w", "a2345678901b", "x1"])
        desk.keep("a", "e(b, X)")
        self.assertEqual(desk.kept()[-1], "a")
        self.assertEqual(desk.state("a"), ("book", [("c",)]))
        self.assertEqual(list(desk.births()), desk.kept())

    def test_taken_goes_ahead_of_what_a_question_is_refused_by(self):
        desk = Desk(PATHS)
        desk.keep("k", "p(a, X)")
        for question in ("p(a, X)", "e(a, X)", "07", "zz zz", "X", "zz", "p(X, a)"):
            for _ in range(2):
                self.assert_refused(Taken, {}, desk.keep, "k", question)
        self.assertEqual((desk.kept(), desk.state("k")), (["k"], ("book", [("b",), ("c",)])))
        desk.drop("k")
        for question, kind in (("07", BadPiece), ("zz zz", BadShape), ("X", BadShape), ("zz", NoMode),
                               ("p(X, a)", NoMode),
                               ("e(" * 13 + "a" + ")" * 13, BadSize)):
            for _ in range(2):
                self.assert_refused(kind, {}, desk.keep, "k", question)
        self.assertEqual(desk.kept(), [])
        desk.keep("k", "e(a, X)")
        self.assertEqual(desk.state("k"), ("book", [("b",)]))

    def test_names_by_which_none_is_kept(self):
        desk = Desk(PATHS)
        desk.keep("k", "p(a, X)")
        desk.keep("gone", "p(a, X)")
        desk.drop("gone")
        for name in ("gone", "kk", "p", "never"):
            for function in (desk.drop, desk.state, desk.birth):
                for _ in range(2):
                    self.assert_refused(NoName, {}, function, name)
        self.assertEqual(desk.kept(), ["k"])

    def test_each_verdict(self):
        for lines, question, wanted in ((RING, "p(a, X)", ("round",)), (OPEN, "n(1, X)", ("open",)),
                                        (PATHS, "p(c, X)", ("book", []))):
            desk = Desk(lines)
            self.assertEqual(desk.keep("k", question), wanted)
            self.assertEqual(desk.state("k"), wanted)
            self.assertEqual((desk.births(), desk.birth("k")), ({"k": 0}, 0))

    def test_most(self):
        self.assertEqual(Desk(PATHS, most=16).keep("k", "p(a, X)"), ("book", [("b",), ("c",)]))
        self.assertEqual(Desk(PATHS, most=15).keep("k", "p(a, X)"), ("open",))

    def test_what_is_told_is_the_askers_own(self):
        desk = Desk(PATHS)
        desk.keep("k", "p(a, X)")[1].clear()
        desk.state("k")[1].clear()
        desk.births().clear()
        desk.kept().clear()
        self.assertEqual((desk.state("k"), desk.births(), desk.kept()), (("book", [("b",), ("c",)]), {"k": 0}, ["k"]))
        news, laid = desk.put(6, "e(c, d)")
        self.assertEqual(news, [("k", ("book", [("b",), ("c",), ("d",)]))])
        news[0][1][1].clear()
        news.clear()
        laid.clear()
        self.assertEqual(desk.state("k"), ("book", [("b",), ("c",), ("d",)]))
        self.assertEqual(desk.put(0, ""), ([], []))

    def test_what_is_kept_is_the_pattern_that_was_read_then(self):
        lines = ["op 5 none to", "mode to(in, out)", "a to b", "mode e(in, out)", "e(a, 1 + 2)"]
        desk = Desk(lines)
        desk.keep("k", "a to X")
        desk.keep("sum", "e(a, X + Y)")
        desk.keep("paren", "e(a, (X))")
        self.assertEqual(desk.change(2, "c to d"), ([("k", ("book", []))], [(2, "to/2", "+-")]))
        desk.change(2, "")
        desk.change(0, "op 5 none from")
        self.assertEqual(desk.state("k"), ("book", []))
        self.assertRaises(BadShape, desk.ask, "a to X")
        desk.put(5, "to(a, z)")
        self.assertEqual(desk.state("k"), ("book", [("z",)]))
        self.assertEqual(desk.state("sum"), ("book", [(1, 2)]))
        self.assertEqual(desk.ask("to(a, X)"), ("book", [("z",)]))


class LostTest(KeptCase):
    def test_a_mode_that_is_lost_and_comes_again(self):
        self.desk(["mode a(in, out)", "a(1, 2)", "mode a(out, out)", "mode z"], k="a(1, X)", both="a(X, Y)")
        self.do("cut", 2, news=[("both", ("lost",))], births={"k": 1, "both": 1})
        self.do("put", 2, "", news=[], births={"k": 1, "both": 2})
        self.do("put", 2, "mode a(out, out)", news=[("both", ("book", [(1, 2)]))], births={"k": 3, "both": 3})
        self.do("change", 0, "mode a(in, in)", news=[], births={"k": 4, "both": 4})
        self.do("cut", 1, news=[("k", ("book", [])), ("both", ("book", []))])
        self.do("cut", 0, news=[])
        self.do("cut", 0, news=[("k", ("lost",)), ("both", ("lost",))])
        self.assertEqual(self.quick.lines(), ["", "mode z"])
        self.do("undo", news=[("k", ("book", [])), ("both", ("book", []))])
        self.do("again", news=[("k", ("lost",)), ("both", ("lost",))])

    def test_a_relation_that_is_gone(self):
        self.desk(["mode a", "a"], k="a")
        self.do("cut", 1, news=[("k", ("book", []))], births={"k": 1})
        self.do("cut", 0, news=[("k", ("lost",))], births={"k": 2})
        self.do("put", 0, "mode b", news=[], births={"k": 3})
        self.do("put", 0, "table a 0", news=[], births={"k": 4})
        self.do("put", 0, "mode a", news=[("k", ("book", []))], births={"k": 5})
        self.do("put", 0, "", news=[], births={"k": 5})

    def test_lost_is_no_state_of_asking(self):
        self.desk(["mode a", "a"], k="a")
        self.do("cut", 1)
        self.do("cut", 0)
        self.assertEqual(self.quick.state("k"), ("lost",))
        self.assert_refused(NoMode, {}, self.quick.ask, "a")
        self.assert_refused(NoMode, {}, self.quick.keep, "other", "a")


class BirthTest(KeptCase):
    TEXT = [*PATHS, "mode q(in, out)", "q(X, X)", "mode f(in)", "f(a)"]

    def test_at_keeping(self):
        self.desk(PATHS, early="p(a, X)")
        self.do("put", 0, "")
        self.do("put", 0, "")
        self.keep("late", "p(a, X)")
        self.assertEqual(self.quick.births(), {"early": 0, "late": 2})
        self.quick.drop("early")
        self.slow.kept.pop("early")
        self.do("put", 2, "e(q, q)", births={"late": 3})

    def test_deeds_that_touch_only_others(self):
        self.desk(self.TEXT, path="p(a, X)", edge="e(a, X)", q="q(a, X)", f="f(a)")
        births = {"path": 0, "edge": 0, "q": 0, "f": 0}
        self.do("put", 0, "", births=births)
        self.do("put", 0, "mode zz", births=births)
        self.do("put", 0, "zz <- f(a), q(a, a)", births=births)
        self.do("put", 0, "op 5 none to", births=births)
        self.do("change", 5, "e(a, b)", births=births)
        self.do("put", 12, "f(b)", news=[], births={**births, "f": 6})
        self.do("cut", 12, news=[], births={**births, "f": 7})
        self.do("undo", births={**births, "f": 8})

    def test_touched_by_a_clause(self):
        self.desk(self.TEXT, path="p(a, X)", edge="e(a, X)", q="q(a, X)", end="p(zz, X)")
        # A clause of e touches what asks for e, also where no state is another.
        self.do("put", 2, "e(z, z)", news=[], births={"path": 1, "edge": 1, "q": 0, "end": 1})
        self.do("cut", 2, births={"path": 2, "edge": 2, "q": 0, "end": 2})
        self.do("change", 4, "p(X, Y) <- e(X, Y), 1 < 2", news=[], births={"path": 3, "edge": 2, "q": 0, "end": 3})
        self.do("change", 4, "p(X, b) <- e(X, Y)", news=[("path", ("book", [("b",)]))],
                births={"path": 4, "edge": 2, "q": 0, "end": 4})
        self.do("change", 4, "p(V, b) <- e(V, Y)", news=[], births={"path": 5, "edge": 2, "q": 0, "end": 5})

    def test_touched_by_an_order_of_clauses(self):
        self.desk(["mode a(out)", "a(1)", "", "a(2)", "a(1)"], k="a(X)", one="a(1)")
        self.do("change", 2, "a(2)", news=[], births={"k": 1, "one": 1})
        self.do("cut", 3, news=[], births={"k": 2, "one": 2})
        # The same clauses in their order, on other lines.
        self.do("put", 1, "", news=[], births={"k": 2, "one": 2})
        self.do("cut", 2, news=[("k", ("book", [(2,), (1,)]))], births={"k": 4, "one": 4})

    def test_touched_by_a_mode(self):
        self.desk(["mode a(in, out)", "a(1, 2)", "mode b(in, out)", "b(X, Y) <- a(X, Y)"], a="a(1, X)", b="b(1, X)")
        self.do("put", 4, "mode a(in, in)", news=[], births={"a": 1, "b": 1})
        self.do("put", 4, "mode a(in, out)", news=[], births={"a": 1, "b": 1})
        self.do("put", 0, "mode a(in, in)", news=[], births={"a": 3, "b": 3})
        self.do("put", 0, "mode b(in, in)", news=[], births={"a": 3, "b": 4})
        self.do("cut", 0, news=[], births={"a": 3, "b": 5})

    def test_touched_by_a_table_row(self):
        self.desk(["mode a(out)", "a(2)", "a(1)", "mode b(out)", "b(X) <- a(X)"], a="a(X)", b="b(X)")
        wanted = ("book", [(1,), (2,)])
        self.do("put", 0, "table a 1", news=[("a", wanted), ("b", wanted)], births={"a": 1, "b": 1})
        self.do("put", 5, "table a 1", news=[], births={"a": 1, "b": 1})
        self.do("cut", 0, news=[], births={"a": 1, "b": 1})
        self.do("put", 0, "table b 1", news=[], births={"a": 1, "b": 4})

    def test_the_lot_ahead_of_the_deed_counts(self):
        # Of relations that a clause names but no way comes to none is in the lot.
        self.desk(["mode a", "a <- b, c", "mode b", "mode c", "c"], k="a")
        self.do("put", 5, "c", news=[], births={"k": 0})
        self.do("put", 6, "b", news=[("k", ("book", [()]))], births={"k": 2})
        self.do("cut", 5, news=[], births={"k": 3})
        # A not's call is in the lot.
        self.desk(["mode a", "a <- not b", "mode b", "b <- c", "mode c"], k="a")
        self.do("put", 5, "c", news=[("k", ("book", []))], births={"k": 1})
        self.do("cut", 5, news=[("k", ("book", [()]))], births={"k": 2})

    def test_operators_that_read_a_clause_otherwise(self):
        self.desk(["op 5 left to", "mode a(out)", "a(X) <- X = b to c to d"], k="a(X)")
        self.do("change", 0, "op 5 right to", news=[("k", ("book", [(("to", "b", ("to", "c", "d")),)]))],
                births={"k": 1})
        self.do("put", 0, "op 2 none with", news=[], births={"k": 1})

    def test_open_states_are_reckoned_at_each_deed(self):
        self.desk([*OPEN, "mode z"], k="n(1, X)", z="z")
        self.do("put", 0, "", news=[], births={"k": 1, "z": 0})
        self.do("put", 0, "mode y", news=[], births={"k": 2, "z": 0})
        self.do("undo", news=[], births={"k": 3, "z": 0})
        self.do("again", news=[], births={"k": 4, "z": 0})
        self.do("cut", 4, news=[("k", ("book", [(1,)]))], births={"k": 5, "z": 0})
        self.do("put", 0, "", news=[], births={"k": 5, "z": 0})
        self.do("undo", news=[], births={"k": 5, "z": 0})
        self.do("undo", news=[("k", ("open",))], births={"k": 8, "z": 0})

    def test_round_states_stay_where_nothing_of_their_lot_is_touched(self):
        self.desk([*RING, "mode z"], k="p(a, X)")
        self.do("put", 0, "z", news=[], births={"k": 0})
        self.do("put", 3, "e(q, q)", news=[], births={"k": 2})
        self.do("put", 0, "table p 2", news=[("k", ("book", [("a",), ("b",)]))], births={"k": 3})
        self.do("cut", 0, news=[("k", ("round",))], births={"k": 4})

    def test_refused_deeds_reckon_nothing(self):
        self.desk([*OPEN, "mode z"], k="n(1, X)")
        for kind, function, places in ((NoPlace, self.quick.cut, (9,)), (BadPiece, self.quick.put, (0, "07")),
                                       (NoStep, self.quick.undo, ()), (BadShape, self.quick.change, (0, "z z"))):
            self.assert_refused(kind, {}, function, *places)
            self.assertEqual(self.quick.births(), {"k": 0})
        self.do("put", 0, "", births={"k": 1})


class NewsTest(KeptCase):
    def test_in_the_order_of_keeping_and_of_other_states_alone(self):
        self.desk(PATHS, zz="p(a, X)", mm="e(a, X)", aa="p(b, X)", nn="p(a, b)")
        wanted = [("zz", ("book", [("b",), ("c",), ("d",)])), ("aa", ("book", [("c",), ("d",)]))]
        self.do("put", 6, "e(c, d)", news=wanted)
        self.quick.drop("zz")
        self.slow.kept.pop("zz")
        self.keep("zz", "p(a, X)")
        self.do("undo", news=[("aa", ("book", [("c",)])), ("zz", ("book", [("b",), ("c",)]))])
        self.do("put", 0, "", news=[])
        self.do("put", 2, "e(a, b)", news=[])

    def test_an_order_of_answers_is_another_state(self):
        self.desk(["mode a(out)", "a(1)", "a(2)"], k="a(X)", one="a(1)")
        self.do("put", 1, "a(2)", news=[("k", ("book", [(2,), (1,)]))])

    def test_each_kind_of_state(self):
        self.desk(PATHS, k="p(a, X)")
        self.do("put", 3, "e(c, a)", news=[("k", ("round",))])
        self.do("put", 0, "table p 2", news=[("k", ("book", [("a",), ("b",), ("c",)]))])
        self.do("put", 0, "p(X, s(Y)) <- p(X, Y)", news=[("k", ("open",))])
        self.do("undo", news=[("k", ("book", [("a",), ("b",), ("c",)]))])
        self.do("undo", news=[("k", ("round",))])
        self.do("undo", news=[("k", ("book", [("b",), ("c",)]))])

    def test_who_hears_all_news_knows_every_state(self):
        self.desk(PATHS, k="p(a, X)", b="p(b, X)", e="e(a, X)")
        heard = {name: self.quick.state(name) for name in self.quick.kept()}
        for word, *places in (("put", 3, "e(c, a)"), ("put", 0, "table p 2"), ("cut", 2), ("undo",),
                              ("change", 2, "e(a, d)"),
                              ("undo",), ("again",), ("cut", 0), ("put", 0, "e(a, a)"), ("undo",), ("undo",),
                              ("undo",)):
            news, _ = getattr(self.quick, word)(*places)
            self.assertEqual(news, self.slow.do(word, *places))
            heard.update(news)
            self.assertEqual(heard, {name: self.quick.state(name) for name in self.quick.kept()})


if __name__ == "__main__":
    unittest.main()
