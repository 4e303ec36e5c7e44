"""Images: programs compiled to codes, clause by clause."""

from goalstead.asking import refuse_unknown
from goalstead.bounds import MOST
from goalstead.codes import Run
from goalstead.errors import NoCall
from goalstead.goals import titles_in
from goalstead.laying import laid
from goalstead.terms import title_of
from goalstead.told import Told, key_of


class Image:
    """The codes of a program's clauses in all modes of their relations; the program itself is not held."""

    def __init__(self, program):
        self._modes = {}
        self._tables = {}
        self._layers = {}
        self._codes = {}
        self._held = {}
        self.renew(program)

    def modes(self, title):
        return list(self._modes.get(title, []))

    def is_tabled(self, title):
        return title in self._tables

    def layer(self, title):
        return self._layers.get(title, 0)

    def codes_of(self, title, mode):
        """The lines of a relation's clauses, each with its codes in a mode."""
        if (title, mode) not in self._codes:
            raise NoCall()
        return [(line, list(codes)) for line, codes in self._codes[(title, mode)]]

    def walk(self, call, told, *, most=MOST):
        """The answers of a call by a told list, the calls met, and how many ways there are."""
        return self.walk_by(call, Told(told), most=most)

    def walk_by(self, call, told, *, most):
        """The same by told rows of any kind; lots are found by these walks."""
        refuse_unknown(self, call)
        title, mode, ins = call
        work = Run(told, most=most)
        answers = {}
        for _, codes in self._codes[(title, mode)]:
            found, _ = work.answers_of(codes, ins)
            for row in found:
                answers.setdefault(key_of(row), row)
        return list(answers.values()), work.calls_met(), work.ways

    def renew(self, program):
        """Holds another program's clauses from now on; tells for which of them codes were laid anew."""
        titles = program.titles()
        self._modes = {title: program.modes(title) for title in titles}
        self._tables = {title: True for title in titles if program.is_tabled(title)}
        self._layers = {title: program.layer(title) for title in titles}
        self._codes = {}
        before = self._held
        self._held = {}
        triples = []
        for title in titles:
            for mode in self._modes[title]:
                self._codes[(title, mode)] = []
                for line in program.clauses(title):
                    key = self._key(program.clause(line), mode)
                    if key not in before:
                        triples.append((line, title, mode))
                    codes = before[key] if key in before else laid(program, line, mode)
                    self._codes[(title, mode)].append((line, codes))
                    self._held[key] = codes
        # Of one line all modes are gone through in their order, so the lines alone have to be put in order.
        return sorted(triples, key=lambda triple: triple[0])

    def _key(self, clause, mode):
        """A text that is the same for clauses whose codes in a mode are."""
        head, goals = clause
        named = [self._modes[title] for title in titles_in(goals) if title is not None]
        return key_of((title_of(head), head, goals, mode, named))
