"""[61], [62]: facts of codes, when codes are tidy, and tidied codes."""

import time
import unittest

from goalstead.codes import run
from goalstead.errors import Open
from goalstead.laying import laid
from goalstead.program import Program
from goalstead.tidying import is_tidy, tidied
from tests import slow, slow_codes
from tests.chance import programs
from tests.helpers import Case
from tests.slow_codes import CodeMaker
from tests.test_codes import NONE, ONE, e, h
from tests.test_walking import BIG, flat, told_rows, tower

KEEP = ("tell", (0,))


def outcome(function, *places):
    try:
        return function(*places)
    except (Open, slow.Opened):
        return "Open"


class TidyCase(Case):
    def tidy(self, wanted, codes, many=1, many_left=None):
        """Which conditions are broken; what is tidied of the codes is looked at in every way."""
        handed = list(codes)
        with self.subTest(codes=codes, many=many):
            self.assertEqual(slow_codes.broken(codes, many), set())
            self.assertEqual(slow_codes.untidy(codes), set(wanted))
            self.assertIs(is_tidy(codes, many), not wanted)
            found = self.looked_at(codes, many)
            if not wanted:
                self.assertEqual(found, codes)
            if many_left is not None:
                self.assertEqual(len(found), many_left, found)
            self.assertEqual(codes, handed)
            return found

    def looked_at(self, codes, many):
        found = tidied(codes, many)
        self.assertIs(type(found), list)
        self.assertEqual(slow_codes.broken(found, many), set(), found)
        self.assertEqual(slow_codes.untidy(found), set(), found)
        self.assertIs(is_tidy(found, many), True)
        self.assertLessEqual(len(found), len(codes))
        self.assertEqual(found.count(("mark",)), codes.count(("mark",)))
        self.assertEqual(tidied(found, many), found)
        self.assertEqual(tidied(codes, many), found)
        return found

    def alike(self, codes, ins, told=()):
        """Codes and their tidied ones run to the same; Open refuses both or neither."""
        with self.subTest(codes=codes, ins=ins, told=told):
            found = self.looked_at(codes, len(ins))
            wanted = outcome(slow_codes.run, codes, ins, told_rows(told))
            self.assertEqual(outcome(run, codes, ins, list(told)), wanted)
            self.assertEqual(outcome(run, found, ins, list(told)), wanted)
            return wanted


class ConditionTest(TidyCase):
    def test_puts_of_what_some_place_is(self):
        self.tidy([1], [("put", 1, "a"), ("put", 2, "a"), ("tell", (1, 2))], 1, 2)
        self.tidy([1], [("this", 0, "a"), ("put", 2, "a"), ("tell", (0, 2))], 1, 2)
        self.tidy([], [("this", 0, "b"), ("put", 2, "a"), ("tell", (0, 2))])
        self.tidy([], [("put", 1, 1), ("put", 2, 2), ("put", 3, -1), ("put", 4, "a"), ("tell", (1, 2, 3, 4))])
        # A fact stands behind its code alone.
        self.tidy([], [("put", 2, "a"), ("this", 0, "a"), ("tell", (0, 2))])
        self.tidy([1, 1, 1], [("put", 1, 3), ("put", 2, 3), ("put", 3, 3), ("put", 4, 3), ("tell", (4, 3, 2, 1))], 1, 2)

    def test_makes_of_what_some_place_is(self):
        self.tidy([2], [("make", 1, "s", (0,)), ("make", 2, "s", (0,)), ("tell", (1, 2))], 1, 2)
        self.tidy([2], [("open", 0, "s", 1, 2), ("make", 3, "s", (1, 2)), ("tell", (3,))], 1, 2)
        self.tidy([], [("open", 0, "s", 1, 2), ("make", 3, "s", (2, 1)), ("tell", (3,))])
        self.tidy([], [("open", 0, "s", 1, 2), ("make", 3, "s", (1,)), ("tell", (3,))])
        self.tidy([], [("open", 0, "s", 1, 2), ("make", 3, "t", (1, 2)), ("tell", (3,))])
        self.tidy([], [("make", 1, "s", (0,)), ("make", 2, "s", (1,)), ("make", 3, "t", (0,)), ("tell", (2, 3))])
        # Nothing that follows from several: two places are the same, what is made of them is not looked into.
        self.tidy([], [("same", 0, 1), ("make", 2, "s", (0,)), ("make", 3, "s", (1,)), ("tell", (2, 3))], 2)

    def test_opens_of_what_is_such_a_tuple(self):
        self.tidy([3], [("open", 0, "s", 1, 1), ("open", 0, "s", 2, 1), ("tell", (2,))], 1, 2)
        self.tidy([3], [("make", 1, "s", (0, 0)), ("open", 1, "s", 2, 2), ("tell", (2,))], 1, 2)
        self.tidy([], [("open", 0, "s", 1, 1), ("open", 0, "s", 2, 2), ("tell", (2,))])
        self.tidy([], [("open", 0, "s", 1, 1), ("open", 0, "t", 2, 1), ("tell", (2,))])
        self.tidy([], [("open", 0, "s", 1, 1), ("open", 1, "s", 2, 1), ("tell", (2,))])
        self.tidy([], [("same", 0, 1), ("open", 0, "s", 2, 1), ("open", 1, "s", 3, 1), ("tell", (2, 3))], 2)

    def test_this_that_is_a_fact(self):
        self.tidy([4], [("this", 0, 5), ("this", 0, 5), KEEP], 1, 2)
        self.tidy([4], [("put", 1, 5), ("this", 1, 5), ("tell", (1,))], 1, 2)
        self.tidy([], [("this", 0, 5), ("this", 0, 6), KEEP])
        self.tidy([], [("this", 0, 5), ("this", 1, 5), KEEP], 2)
        self.tidy([], [("this", 0, 5), ("same", 0, 1), ("this", 1, 5), KEEP], 2)

    def test_same_that_is_a_fact(self):
        self.tidy([5], [("same", 0, 0), KEEP], 1, 1)
        self.tidy([5], [("same", 0, 1), ("same", 0, 1), KEEP], 2, 2)
        self.tidy([5], [("same", 0, 1), ("same", 1, 0), KEEP], 2, 2)
        self.tidy([], [("same", 0, 1), ("same", 1, 2), ("same", 0, 2), KEEP], 3)
        self.tidy([], [("this", 0, 5), ("this", 1, 5), ("same", 0, 1), KEEP], 2)

    def test_puts_that_no_code_behind_reads(self):
        self.tidy([6], [("put", 1, 5), KEEP], 1, 1)
        self.tidy([6], [("put", 1, 5), ("put", 2, 6), ("tell", (2,))], 1, 2)
        for code in (("this", 1, 6), ("same", 0, 1), ("same", 1, 0), ("open", 1, "s", 5, 1), ("make", 5, "s", (0, 1)),
                     ("sum", 5, ("+", 1, ("at", 1))), ("test", "<", 3, ("at", 1)), ("call", "f/1", "+", (1,), 5),
                     ("bar", "f/1", "+", (1,), 5, 0), ("field", ((1, ("at", 1)),), (), 5),
                     ("field", ((1, 2),), (("<", ("at", 5), ("at", 1)),), 5)):
            self.tidy([], [("put", 1, 5), code, KEEP])
        self.tidy([], [("put", 1, 5), ("bar", "h/1", "-", (), 5, 1), ("same", 5, 1), KEEP])
        # A put that only a look reads which is left out itself.
        self.tidy([4], [("put", 1, 5), ("this", 1, 5), KEEP], 1, 1)

    def test_two_broken_at_once(self):
        self.tidy([1, 6], [("put", 1, 5), ("put", 2, 5), KEEP], 1, 1)
        self.tidy([1, 2], [("put", 1, 5), ("put", 2, 5), ("make", 3, "s", (1,)), ("make", 4, "s", (1,)),
                           ("tell", (1, 2, 3, 4))], 1, 3)
        # What is left out of the codes ahead makes another code one that is known.
        found = self.tidy([1], [("put", 1, 5), ("put", 2, 5), ("make", 3, "s", (1,)), ("make", 4, "s", (2,)),
                                ("same", 3, 4), ("same", 1, 2), ("tell", (3, 4))], 1, 3)
        self.assertEqual(found[-1][1][0], found[-1][1][1])

    def test_what_is_left_out_is_read_where_it_stands_already(self):
        at = ("at", 2)
        for code, wanted in ((("this", 2, 6), ("this", 1, 6)), (("same", 2, 0), ("same", 1, 0)),
                             (("same", 0, 2), ("same", 0, 1)),
                             (("open", 2, "s", 5, 2), ("open", 1, "s", 5, 2)),
                             (("make", 5, "s", (0, 2)), ("make", 5, "s", (0, 1))),
                             (("sum", 5, ("+", at, ("*", 2, at))), ("sum", 5, ("+", ("at", 1), ("*", 2, ("at", 1))))),
                             (("test", "<", at, 2), ("test", "<", ("at", 1), 2)),
                             (("test", "<", 2, at), ("test", "<", 2, ("at", 1))),
                             (("call", "e/2", "++", (2, 0), 5), ("call", "e/2", "++", (1, 0), 5)),
                             (("bar", "e/2", "+-", (2,), 5, 0), ("bar", "e/2", "+-", (1,), 5, 0)),
                             (("field", ((at, 2), (0, at)), (("<", ("at", 5), at), ("<", at, 9)), 5),
                              ("field", ((("at", 1), 2), (0, ("at", 1))),
                               (("<", ("at", 5), ("at", 1)), ("<", ("at", 1), 9)), 5))):
            found = self.tidy([1], [("put", 1, 5), ("put", 2, 5), code, ("tell", (2, 1, 0))], 1, 3)
            self.assertEqual(found, [("put", 1, 5), wanted, ("tell", (1, 1, 0))])
            for ins in (5, 3, ("s", 1, 2)):
                for told in ([], [(e(5), [(1,)])], [(("e/2", "++", (5, ins)), [()])]):
                    self.alike([("put", 1, 5), ("put", 2, 5), code, ("tell", (2, 1, 0))], (ins,), told)

    def test_codes_that_do_not_fit_are_not_tidy(self):
        for codes in ([], [("mark",)], [ONE], [("put", 0, 1), NONE, NONE], [("bar", "k/0", "", (), 5, 1), NONE],
                      [("call", "f/1", "+", (), 5), NONE]):
            self.assertIs(is_tidy(codes, 0), False)
        self.assertIs(is_tidy([ONE], 1), True)
        self.assertIs(is_tidy([NONE], 0), True)


class BarTest(TidyCase):
    BAR = ("bar", "h/1", "-", (), 9)

    def test_facts_of_a_bars_codes_count_among_these_alone(self):
        self.tidy([], [(*self.BAR, 1), ("this", 0, 5), ("this", 0, 5), KEEP])
        self.tidy([], [(*self.BAR, 1), ("this", 0, 5), ("put", 1, 5), ("tell", (1,))])
        self.tidy([], [(*self.BAR, 1), ("same", 0, 1), ("same", 0, 1), KEEP], 2)
        self.tidy([], [(*self.BAR, 1), ("open", 0, "s", 5, 1), ("open", 0, "s", 6, 1), ("tell", (6,))])
        self.tidy([], [(*self.BAR, 1), ("this", 0, 5), ("bar", "k/0", "", (), 7, 1), ("this", 0, 5), KEEP])
        self.tidy([4], [(*self.BAR, 2), ("this", 0, 5), ("this", 0, 5), KEEP], 1, 3)
        self.tidy([5], [(*self.BAR, 2), ("same", 9, 0), ("same", 0, 9), KEEP], 1, 3)
        self.tidy([5], [(*self.BAR, 1), ("same", 9, 9), KEEP], 1, 2)
        self.tidy([3], [(*self.BAR, 3), ("open", 9, "s", 5, 1), ("open", 9, "s", 6, 1), ("same", 6, 0), KEEP], 1, 4)

    def test_facts_ahead_of_a_bar_count_within_it(self):
        self.tidy([4], [("this", 0, 5), (*self.BAR, 1), ("this", 0, 5), KEEP], 1, 3)
        self.tidy([5], [("same", 0, 1), (*self.BAR, 1), ("same", 1, 0), KEEP], 2, 3)
        found = self.tidy([3], [("open", 0, "s", 1, 1), (*self.BAR, 2), ("open", 0, "s", 5, 1), ("same", 5, 9),
                                ("tell", (1,))], 1, 4)
        self.assertEqual(found[1], (*self.BAR, 1))
        self.assertEqual(set(found[2][1:]), {1, 9})

    def test_bars_run_alike(self):
        for codes in ([("this", 0, 5), (*self.BAR, 1), ("this", 0, 5), KEEP],
                      [(*self.BAR, 2), ("same", 9, 0), ("same", 0, 9), ("this", 0, 5), KEEP],
                      [(*self.BAR, 3), ("open", 9, "s", 5, 1), ("open", 9, "s", 6, 1), ("same", 6, 0), KEEP],
                      [("put", 1, 5), ("put", 2, 5), (*self.BAR, 1), ("same", 9, 2), ("tell", (1,))]):
            for term in (5, ("s", 5), 6):
                for rows in ([], [(5,)], [(("s", 5),)], [(1,), (("s", 6),)]):
                    self.alike(codes, (term,), [(h(), rows)])


class StayTest(TidyCase):
    """What is not left out: what may be refused by Open, and calls that are asked for."""

    def test_makes(self):
        codes = [("make", 1, "s", (0,)), KEEP]
        self.tidy([], codes)
        for term, wanted in ((flat(59), 1), (flat(60), "Open"), (tower(11), 1), (tower(12), "Open")):
            found = self.alike(codes, (term,))
            self.assertEqual(found if found == "Open" else len(found[0]), wanted)
            found = self.alike([codes[0], ("make", 2, "s", (0,)), ("open", 2, "s", 5, 1), ("tell", (1, 5))], (term,))
            self.assertEqual(found if found == "Open" else len(found[0]), wanted)

    def test_sums_fields_and_calls(self):
        self.tidy([], [("sum", 1, ("+", 1, ("at", 0))), ("sum", 2, ("+", 1, ("at", 0))), KEEP])
        self.assertEqual(self.alike([("sum", 1, ("+", 1, ("at", 0))), KEEP], (BIG,)), "Open")
        self.tidy([], [("field", ((1, ("at", 0)),), (), 1), ("field", ((1, ("at", 0)),), (), 2), KEEP])
        self.assertEqual(self.alike([("field", ((1, ("at", 0)),), (), 1), KEEP], (401,)), "Open")
        self.tidy([], [("call", "h/1", "-", (), 1), ("call", "h/1", "-", (), 2), KEEP])
        self.assertEqual(self.alike([("call", "h/1", "-", (), 1), KEEP], (5,), [(h(), [(1,), (2,)])])[0], [(5,), (5,)])
        self.tidy([], [("bar", "h/1", "-", (), 1, 0), ("bar", "h/1", "-", (), 2, 0), KEEP])
        self.tidy([], [("test", "<", ("at", 0), 1), ("test", "<", ("at", 0), 1), ("mark",), ("mark",), KEEP])

    def test_an_open_that_lets_nothing_by(self):
        codes = [("make", 1, "s", (0,)), ("open", 1, "s", 2, 2), KEEP]
        self.tidy([], codes)
        self.assertEqual(self.alike(codes, (5,)), ([], [], []))
        codes = [("put", 1, 5), ("this", 1, 6), KEEP]
        self.tidy([], codes)
        self.assertEqual(self.alike(codes, (5,)), ([], [], []))

    def test_calls_met_and_marks(self):
        codes = [("put", 1, 5), ("put", 2, 5), ("call", "e/2", "+-", (1,), 3), ("mark",),
                 ("call", "e/2", "+-", (2,), 4),
                 ("same", 3, 4), ("same", 4, 3), ("mark",), ("make", 6, "s", (3,)), ("make", 7, "s", (3,)),
                 ("tell", (6, 7))]
        told = [(e(5), [(1,), (2,)])]
        wanted = ([(("s", 1), ("s", 1)), (("s", 2), ("s", 2))], [2, 2], [e(5)])
        self.assertEqual(self.alike(codes, (), told), wanted)


class LaidTest(TidyCase):
    def test_laid_codes(self):
        shorter = 0
        for maker in programs(range(3500, 3650)):
            if slow.House(maker.rows).refusal is None:
                program = Program(maker.rows)
                for title, mode, ins in maker.calls(3):
                    for line in program.clauses(title):
                        codes = laid(program, line, mode)
                        found = self.looked_at(codes, len(ins))
                        self.assertIs(is_tidy(codes, len(ins)), not slow_codes.untidy(codes))
                        shorter += len(found) < len(codes)
                        told = maker.told(outcome(run, codes, ins, [])[2])
                        self.alike(codes, ins, told)
        self.assertGreater(shorter, 20)


class ChanceTest(TidyCase):
    def test_drawn_codes(self):
        seen, broken = {}, {}
        for seed in range(5000, 8000):
            maker = CodeMaker(seed, longest=6 + seed % 9, terms=[flat(59), flat(60), tower(11), tower(12), BIG])
            wanted = slow_codes.untidy(maker.codes)
            self.tidy(wanted, maker.codes, maker.many)
            for _ in range(3):
                ins, (rows, told) = maker.ins(), maker.told()
                outcome(slow_codes.run, maker.codes, ins, rows)
                found = self.alike(maker.codes, ins, list(told.items()))
                seen[found if found == "Open" else min(len(found[0]), 2)] = True
            for condition in wanted:
                broken[condition] = True
        self.assertEqual(set(seen), {0, 1, 2, "Open"})
        self.assertEqual(sorted(broken), [1, 2, 3, 4, 5, 6])


class HandedTest(TidyCase):
    def test_what_is_told_is_the_askers_own(self):
        codes = [("put", 1, "a"), ("put", 2, "a"), ("tell", (1, 2))]
        self.assert_new_each_time(tidied, codes, 0)
        tidy = [("put", 1, "a"), ("tell", (1,))]
        self.assert_new_each_time(tidied, tidy, 0)
        self.assertEqual(tidy, [("put", 1, "a"), ("tell", (1,))])
        self.assertEqual(codes, [("put", 1, "a"), ("put", 2, "a"), ("tell", (1, 2))])

    def test_long_codes_end_in_seconds(self):
        began = time.monotonic()
        codes = []
        for number in range(1000):
            codes += [("put", 2 * number + 1, number % 7), ("make", 2 * number + 2, "s", (0, 2 * number + 1))]
        codes.append(("tell", (2000, 1998)))
        self.assertLess(len(self.looked_at(codes, 1)), 20)
        self.assertLess(time.monotonic() - began, 20)


if __name__ == "__main__":
    unittest.main()
