"""Programs: clauses, modes and tables, looked at once and then walked."""

from goalstead.asking import refuse_unknown
from goalstead.bounds import MOST
from goalstead.errors import Ill, Mixed, Modeless, NoCall, Notring
from goalstead.goals import kind_of, titles_in
from goalstead.known import held
from goalstead.relations import layers_of, reached_from
from goalstead.terms import title_of
from goalstead.told import Told, key_of
from goalstead.walking import Walk


class Program:
    """The clauses of a list of rows, each known by its line."""

    def __init__(self, rows):
        self._modes = {}
        self._tables = {}
        self._lines = {}
        self._clauses = {}
        for line, row in enumerate(rows):
            self._take(line, row)
        self._look_for_modes()
        self._plans = self._held_plans()
        self._reached = self._reached_titles()
        self._look_for_mixed()
        self._look_for_notrings()
        self._layers = layers_of(list(self._clauses.values()))

    def _take(self, line, row):
        """Takes in what the row of a line tells; blank and op rows tell nothing."""
        if row[0] == "mode":
            modes = self._relation(f"{row[1]}/{len(row[2])}")
            if row[2] not in modes:
                modes.append(row[2])
        elif row[0] == "table":
            title = f"{row[1]}/{row[2]}"
            self._relation(title)
            self._tables[title] = True
        elif row[0] == "clause":
            _, head, goals = row
            self._relation(title_of(head))
            self._lines[title_of(head)].append(line)
            self._clauses[line] = (head, goals)
            for title in titles_in(goals):
                if title is not None:
                    self._relation(title)

    def _relation(self, title):
        """The modes of a relation that the program has from now on."""
        self._lines.setdefault(title, [])
        return self._modes.setdefault(title, [])

    def _look_for_modes(self):
        for line, (head, goals) in self._clauses.items():
            for goal, title in enumerate([title_of(head), *titles_in(goals)]):
                if title is not None and not self._modes[title]:
                    raise Modeless(line, goal)

    def _held_plans(self):
        """The plan of each clause in each mode of its head's relation."""
        plans = {}
        for line, (head, goals) in self._clauses.items():
            for mode in self._modes[title_of(head)]:
                plan, ill = held(head, goals, mode, self._modes)
                if ill is not None:
                    raise Ill(line, mode, ill)
                plans[(line, mode)] = plan
        return plans

    def _reached_titles(self):
        """All that each relation comes to, itself among it."""
        named = {title: {} for title in self._modes}
        for head, goals in self._clauses.values():
            for title in titles_in(goals):
                if title is not None:
                    named[title_of(head)][title] = True
        return {title: reached_from(title, named) for title in named}

    def _look_for_mixed(self):
        for line, (head, goals) in self._clauses.items():
            title = title_of(head)
            for other in titles_in(goals):
                if other is not None and title in self._reached[other]:
                    if self.is_tabled(title) != self.is_tabled(other):
                        raise Mixed(line)

    def _look_for_notrings(self):
        for line, (head, goals) in self._clauses.items():
            nots = [goal for goal in goals if kind_of(goal) == "not"]
            for other in titles_in(nots):
                if title_of(head) in self._reached[other]:
                    raise Notring(line)

    def titles(self):
        return sorted(list(self._modes))

    def modes(self, title):
        return list(self._modes.get(title, []))

    def is_tabled(self, title):
        return title in self._tables

    def clauses(self, title):
        """The lines of a relation's clauses."""
        return list(self._lines.get(title, []))

    def comes_to(self, title):
        """The titles of all relations that a relation comes to."""
        return sorted(self._reached[title]) if title in self._reached else [title]

    def layer(self, title):
        return self._layers.get(title, 0)

    def clause(self, line):
        """The head and the goals of the clause in a line."""
        if line not in self._clauses:
            raise NoCall()
        return self._clauses[line]

    def plan(self, line, mode):
        """The plan of the clause in a line, in a mode of its head's relation."""
        if (line, mode) not in self._plans:
            raise NoCall()
        return list(self._plans[(line, mode)])

    def walk(self, call, told, *, most=MOST):
        """The answers of a call by a told list, the calls met, and how many ways there are."""
        return self.walk_by(call, Told(told), most=most)

    def walk_by(self, call, told, *, most):
        """The same by told rows of any kind; lots are found by these walks."""
        title, mode, ins = call
        refuse_unknown(self, call)
        walk = Walk(told, most=most)
        answers = {}
        for line in self._lines[title]:
            head, goals = self._clauses[line]
            found, _ = walk.clause(head, goals, mode, self._plans[(line, mode)], ins)
            for row, _ in found:
                answers.setdefault(key_of(row), row)
        return list(answers.values()), walk.calls_met(), walk.ways
