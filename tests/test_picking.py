"""[63]: the clauses picked for a call."""

import unittest

from goalstead.errors import NoCall
from goalstead.picking import picked
from goalstead.program import Program
from goalstead.walking import walk_clause
from tests import slow
from tests.chance import programs
from tests.helpers import Case, program_of
from tests.test_lots import one
from tests.test_walks import NO_CALLS, TEXT

HEADS = """
    mode a(in, out)
    mode a(in, in)
    a(1, x)
    a(X, 1)
    a(x, 2)
    a(f(X), f(X))
    a(f(1), x)
    a(f(X, Y), f(X, Y))
    a(~1, 1) <- 1 < 2
    a(g(X), f(g(X)))
    a(X, X)
    mode b(in)
    b(1)
    a(1, f(2))
    mode c(out, in, in)
    mode c(out, out, in)
    c(1, x, 1)
    c(x, 1, X)
    c(f(1), f(2), f(X))
    c(1, f(X), X)
    mode d(out, out)
    d(1, 2)
    d(x, f(1))
"""


def slowly_picked(house, call):
    """[63], by matching: what can't be matched because of its first sign alone is left out."""
    title, mode, ins = call
    lines = house.lines(title)
    if "+" not in mode:
        return lines
    found = []
    for line in lines:
        pattern = house.clauses[line][0][1 + mode.index("+")]
        if isinstance(pattern, tuple):
            if isinstance(ins[0], tuple) and (pattern[0], len(pattern)) == (ins[0][0], len(ins[0])):
                found.append(line)
        elif slow.oracle.is_unknown(pattern) or (type(pattern), pattern) == (type(ins[0]), ins[0]):
            found.append(line)
    return found


class PickedTest(Case):
    def picked(self, wanted, call, text=HEADS):
        with self.subTest(call=call, text=text):
            self.assertEqual(picked(program_of(text), call), wanted)

    def test_by_the_first_place_that_is_known(self):
        self.picked([2, 3, 10, 13], ("a/2", "+-", (1,)))
        self.picked([3, 4, 10], ("a/2", "+-", ("x",)))
        self.picked([3, 8, 10], ("a/2", "+-", (-1,)))
        self.picked([3, 5, 6, 10], ("a/2", "+-", (("f", 1),)))
        self.picked([3, 5, 6, 10], ("a/2", "+-", (("f", "zz"),)))
        self.picked([3, 7, 10], ("a/2", "+-", (("f", 1, 2),)))
        self.picked([3, 9, 10], ("a/2", "+-", (("g", ("g", 1)),)))
        for term in (2, "y", "f", ("h", 1), ("f", 1, 2, 3), ("x", 1)):
            self.picked([3, 10], ("a/2", "+-", (term,)))
        self.picked([12], one("b", 1))
        self.picked([], one("b", 2))

    def test_a_mode_whose_first_known_place_is_not_the_first(self):
        self.picked([16], ("c/3", "-++", ("x", 7)))
        self.picked([17], ("c/3", "-++", (1, 7)))
        self.picked([18, 19], ("c/3", "-++", (("f", 1), 7)))
        self.picked([], ("c/3", "-++", (7, 1)))
        self.picked([16, 17, 19], ("c/3", "--+", (1,)))
        self.picked([17, 18, 19], ("c/3", "--+", (("f", 9),)))
        self.picked([17, 19], ("c/3", "--+", ("x",)))

    def test_the_first_of_several_ins_counts_alone(self):
        for other in (1, "x", "zz", ("f", 2)):
            self.picked([2, 3, 10, 13], ("a/2", "++", (1, other)))
        # A clause that is picked needs not match.
        self.assertEqual(walk_clause(program_of(HEADS), 2, "++", (1, "zz"), []), ([], [], []))

    def test_without_a_known_place_all(self):
        self.picked([21, 22], ("d/2", "--", ()))
        self.picked([1, 3], one("k"), "mode k \n k \n mode z \n k <- z")
        self.picked([], one("k"), "mode k")

    def test_no_call(self):
        program = program_of(TEXT + "\n table lone 2")
        for call in NO_CALLS:
            for _ in range(2):
                self.assert_refused(NoCall, {}, picked, program, call)

    def test_new_lists_each_time(self):
        program = program_of(HEADS)
        self.assert_new_each_time(picked, program, ("d/2", "--", ()))
        self.assert_new_each_time(picked, program, ("a/2", "+-", (1,)))
        self.assertEqual(program.clauses("d/2"), [21, 22])

    def test_the_others_have_nothing(self):
        """No answers, no ways, no calls met, and Open does not refuse them; by chance, too."""
        left_out = 0
        for maker in programs(range(3700, 3900)):
            house = slow.House(maker.rows)
            if house.refusal is None:
                program = Program(maker.rows)
                for call in maker.calls(4):
                    title, mode, ins = call
                    found = picked(program, call)
                    self.assertEqual(found, slowly_picked(house, call))
                    for line in program.clauses(title):
                        if line not in found:
                            left_out += 1
                            answers, marks, met = walk_clause(program, line, mode, ins, [])
                            self.assertEqual((answers, sum(marks), met), ([], 0, []))
        self.assertGreater(left_out, 100)
        text = "mode a(in) \n mode e(in) \n a(1) <- X in 1 .. 401 \n a(f(X)) <- e(X)"
        self.picked([], one("a", 2), text)
        self.picked([2], one("a", 1), text)


if __name__ == "__main__":
    unittest.main()
