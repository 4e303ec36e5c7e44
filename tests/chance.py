"""Programs, calls and told lists made by chance, always the same for a seed."""

import random

WORDS = ["a", "b"]
TERMS = [0, 1, 2, 3, "a", "b", ("s", 0), ("s", ("s", "a"))]
PLACES = {"e": 2, "f": 1, "p": 2, "q": 1, "r": 2, "s": 3, "t": 0, "+": 2}
UNKNOWNS = ["X", "Y", "Z", "U", "V", "W"]


class Maker:
    """One program's rows, made so that most of its clauses are well."""

    def __init__(self, seed):
        self.random = random.Random(seed)
        self.names = ["e", "f"] + self.random.sample(["p", "q", "r", "s", "t", "+"], self.random.randint(2, 4))
        self.modes = {}
        self.rows = []
        for name in self.names:
            for _ in range(self.random.choice([1, 1, 1, 2])):
                mode = "".join(self.random.choice("+-") for _ in range(PLACES[name]))
                self.modes.setdefault(name, []).append(mode)
                self.rows.append(("mode", name, mode))
        for name in self.names:
            if self.random.random() < 0.35:
                self.rows.append(("table", name, PLACES[name]))
        for _ in range(self.random.randint(3, 7)):
            self.rows.append(self.fact(self.random.choice("eeef")))
        for _ in range(self.random.randint(2, 6)):
            self.rows.append(self.clause(self.random.choice(self.names[2:])))
        if self.random.random() < 0.5:
            self.random.shuffle(self.rows)
        if self.random.random() < 0.3:
            self.rows.insert(self.random.randint(0, len(self.rows)), ("blank",))

    def fact(self, name):
        return ("clause", self.tuple_of(name, [self.random.choice(TERMS) for _ in range(PLACES[name])]), ())

    def tuple_of(self, name, parts):
        return (name, *parts) if parts else name

    def clause(self, name):
        mode = self.random.choice(self.modes[name])
        unknowns = list(UNKNOWNS)
        known, ahead = [], []
        for sign in mode:
            if sign == "+":
                if self.random.random() < 0.8:
                    known.append(unknowns.pop(0))
                    ahead.append(self.random.choice([known[-1], known[-1], known[-1], ("s", known[-1])]))
                else:
                    ahead.append(self.random.choice(TERMS))
        goals = [self.goal(known, unknowns) for _ in range(self.random.choice([0, 1, 1, 2, 2, 3]))]
        parts = [ahead.pop(0) if sign == "+" else self.known_part(known) for sign in mode]
        return ("clause", self.tuple_of(name, parts), tuple(goals))

    def known_part(self, known):
        """A pattern of what is known."""
        if known and self.random.random() < 0.8:
            unknown = self.random.choice(known)
            return ("s", unknown) if self.random.random() < 0.1 else unknown
        if self.random.random() < 0.03:
            return "Stray"
        return self.random.choice(TERMS)

    def sum(self, known):
        if known and self.random.random() < 0.7:
            left = self.random.choice(known)
        else:
            left = self.random.randint(-1, 3)
        if self.random.random() < 0.4:
            return left
        return (self.random.choice(["+", "-", "*", "//", "mod"]), left, self.random.randint(0, 3))

    def goal(self, known, unknowns):
        kind = self.random.choice(["relation"] * 6 + ["not", "not", "=", "is", "test", "field"])
        if kind in ("relation", "not"):
            return self.relation(kind, known, unknowns)
        if kind == "test":
            return (self.random.choice(["<", "=<", "==", "=/="]), self.sum(known), self.sum(known))
        if kind == "=":
            other = self.random.choice(["new", ("s", "new"), 1])
            sides = [self.known_part(known), self.renewed(other, known, unknowns)]
            self.random.shuffle(sides)
            return ("=", *sides)
        if kind == "is":
            reading = self.sum(known)
            if self.random.random() < 0.8:
                reading = ("mod", reading, self.random.randint(2, 4))
            return ("is", self.renewed("new", known, unknowns), reading)
        return self.field(known, unknowns)

    def renewed(self, pattern, known, unknowns):
        """The pattern with an unknown, mostly a new one, in the place of `new`."""
        if pattern == ("s", "new"):
            return ("s", self.renewed("new", known, unknowns))
        if pattern != "new" or not unknowns or (known and self.random.random() < 0.1):
            return self.known_part(known)
        known.append(unknowns.pop(0))
        return known[-1]

    def relation(self, kind, known, unknowns):
        name = self.random.choice(self.names)
        mode = self.random.choice(self.modes[name])
        parts = []
        ahead = list(known)
        for sign in mode:
            if sign == "+" or self.random.random() < 0.2:
                parts.append(self.known_part(ahead))
            elif kind == "not":
                parts.append(f"Own{self.random.choice('12')}" if self.random.random() < 0.8 else self.known_part(ahead))
            else:
                parts.append(self.renewed(self.random.choice(["new", "new", "new", ("s", "new")]), known, unknowns))
        pattern = self.tuple_of(name, parts)
        return ("not", pattern) if kind == "not" else pattern

    def field(self, known, unknowns):
        ahead = list(known)
        own = [self.renewed("new", known, unknowns) for _ in range(self.random.choice([1, 1, 2]))]
        own = [name for name in dict.fromkeys(own) if name in UNKNOWNS and name not in ahead] or ["Far"]
        ranges = [("in", name, ("..", self.random.randint(0, 1), self.sum(ahead))) for name in own]
        box = ranges[0] if len(ranges) == 1 else ("and", ranges[0], ranges[1])
        if self.random.random() < 0.4:
            return box
        return ("such", box, (self.random.choice(["<", "=<", "==", "=/="]), self.sum(own + ahead), self.sum(own)))

    def calls(self, many):
        """Some calls of the program, and one that it perhaps does not have."""
        found = []
        for _ in range(many):
            name = self.random.choice(self.names)
            mode = self.random.choice(self.modes[name])
            found.append((f"{name}/{PLACES[name]}", mode, self.terms(mode.count("+"))))
        return found

    def terms(self, many):
        return tuple(self.random.choice(TERMS) for _ in range(many))

    def told(self, calls):
        """A told list for these calls, some of it missing."""
        found = []
        for title, mode, ins in calls:
            if self.random.random() < 0.8:
                rows = [self.terms(mode.count("-")) for _ in range(self.random.randint(0, 3))]
                found.append(((title, mode, ins), list(dict.fromkeys(rows))))
        self.random.shuffle(found)
        return found


def programs(seeds):
    """Makers, one for each seed."""
    return [Maker(seed) for seed in seeds]
