"""The document's words on codes, done slowly and plainly, and codes made by chance."""

import itertools
import random

from tests import oracle, slow


def trees_of(code):
    """The trees of a sum, a test or a field; of a field's tests only where they are asked for."""
    match code:
        case ("sum", _, tree):
            return [tree]
        case ("test", _, left, right):
            return [left, right]
        case ("field", ranges, _, _):
            return [tree for pair in ranges for tree in pair]
    return []


def places(tree):
    match tree:
        case int():
            return set()
        case ("at", k):
            return {k}
    return places(tree[1]) | places(tree[2])


def writes(code):
    match code:
        case ("put" | "make" | "sum", place, *_):
            return {place}
        case ("open", _, _, first, many):
            return set(range(first, first + many))
        case ("call" | "bar", _, mode, _, first, *_):
            return set(range(first, first + mode.count("-")))
        case ("field", ranges, _, first):
            return set(range(first, first + len(ranges)))
    return set()


def reads(code):
    found = set().union(*[places(tree) for tree in trees_of(code)])
    match code:
        case ("this" | "open", place, *_):
            return {place}
        case ("same", one, other):
            return {one, other}
        case ("make" | "call" | "bar", _, _, row, *_) | ("tell", row):
            return set(row)
        case ("field", _, tests, _):
            own = set().union(*[places(left) | places(right) for _, left, right in tests])
            return found | (own - writes(code))
    return found


def scopes(codes):
    """For each code the number of the bar that it stands behind, as one of its N, or None."""
    found = [None] * len(codes)
    for at, code in enumerate(codes):
        if code[0] == "bar":
            for inner in range(at + 1, min(at + 1 + code[5], len(codes))):
                found[inner] = at
    return found


def broken(codes, many):
    """[59]: the numbers of the conditions that do not hold."""
    found, inside = set(), scopes(codes)
    if not codes or codes[-1][0] != "tell" or any(code[0] == "tell" for code in codes[:-1]):
        found.add(1)
    for at, code in enumerate(codes):
        let_by = set(range(many))
        for ahead in range(at):
            # What a bar or its codes wrote is read by its codes alone.
            home = ahead if codes[ahead][0] == "bar" else inside[ahead]
            if home is None or home == inside[at]:
                let_by |= writes(codes[ahead])
        if not reads(code) <= let_by:
            found.add(2)
        ahead = set(range(many)).union(*[writes(other) for other in codes[:at]])
        if writes(code) & ahead:
            found.add(3)
        if code[0] == "bar":
            row = codes[at + 1:at + 1 + code[5]]
            if len(row) < code[5] or any(inner[0] not in ("this", "open", "same") for inner in row):
                found.add(4)
        if code[0] in ("call", "bar") and len(code[3]) != len([sign for sign in code[2] if sign == "+"]):
            found.add(5)
    return found


def fits(codes, many):
    return not broken(codes, many)


def run(codes, ins, told):
    """[57], [58]: answers, marks and met; all codes on all states."""
    states, counts, met = [dict(enumerate(ins))], [], []
    at = 0
    while at < len(codes):
        code = codes[at]
        behind = codes[at + 1:at + 1 + code[5]] if code[0] == "bar" else []
        if code[0] == "mark":
            counts.append(len(states))
        elif code[0] == "tell":
            return [tuple(state[k] for k in code[1]) for state in states], counts, slow.call_order(met)
        else:
            states = [other for state in states for other in made(code, behind, state, told, met)]
        at += 1 + len(behind)
    raise AssertionError


def made(code, behind, state, told, met):
    """The states that a code makes of one."""
    match code:
        case ("this", place, term):
            return [state] if type(state[place]) is type(term) and state[place] == term else []
        case ("open", place, name, first, many):
            term = state[place]
            if not isinstance(term, tuple) or (term[0], len(term) - 1) != (name, many):
                return []
            return [state | {first + k: term[1 + k] for k in range(many)}]
        case ("same", one, other):
            return [state] if oracle.compare(state[one], state[other]) == 0 else []
        case ("put", place, term):
            return [state | {place: term}]
        case ("make", place, name, row):
            term = (name,) + tuple(state[k] for k in row)
            if not oracle.fits(term):
                raise slow.Opened
            return [state | {place: term}]
        case ("sum", place, tree):
            number = slow.worth(tree, state)
            if number is not None and len(str(abs(number))) > 60:
                raise slow.Opened
            return [] if number is None else [state | {place: number}]
        case ("test", *test):
            return [state] if slow.holds(test, state) else []
        case ("call", *_):
            return rows_behind(code, state, told, met)
        case ("bar", *_):
            found = rows_behind(code, state, told, met)
            for inner in behind:
                found = [other for one in found for other in made(inner, [], one, told, met)]
            return [] if found else [state]
    return field_states(code, state)


def rows_behind(code, state, told, met):
    _, title, mode, row, first = code[:5]
    call = (title, mode, tuple(state[k] for k in row))
    met.append(call)
    return [state | dict(enumerate(terms, first)) for terms in told(call)]


def field_states(code, state):
    _, ranges, tests, first = code
    box = []
    for pair in ranges:
        ends = []
        for tree in pair:
            ends.append(slow.worth(tree, state))
            if ends[-1] is None:
                return []
            if len(str(abs(ends[-1]))) > 60:
                raise slow.Opened
        box.append(range(ends[0], ends[1] + 1))
    many = 1
    for span in box:
        many *= max(0, span.stop - span.start)
    if many > slow.POINTS:
        raise slow.Opened
    states = [state | dict(enumerate(point, first)) for point in (itertools.product(*box) if many else [])]
    return [one for one in states if all(slow.holds(test, one) for test in tests)]


# [61]

def facts_behind(code):
    """Pairs of a place and what it is."""
    match code:
        case ("this" | "put", place, term):
            return [(place, ("term", term))]
        case ("open", place, name, first, many):
            return [(place, ("tuple", name, tuple(range(first, first + many))))]
        case ("make", place, name, row):
            return [(place, ("tuple", name, row))]
        case ("same", one, other):
            return [(one, ("place", other)), (other, ("place", one))]
    return []


def untidy(codes):
    """The numbers of the conditions that do not hold of codes that fit."""
    found, inside = set(), scopes(codes)
    for at, code in enumerate(codes):
        facts = []
        for ahead in range(at):
            if inside[ahead] is None or inside[ahead] == inside[at]:
                facts += facts_behind(codes[ahead])
        match code:
            case ("put", place, term):
                if ("term", term) in [fact for _, fact in facts]:
                    found.add(1)
                if not any(place in reads(other) for other in codes[at + 1:]):
                    found.add(6)
            case ("make", _, name, row):
                if ("tuple", name, row) in [fact for _, fact in facts]:
                    found.add(2)
            case ("open", place, name, _, many):
                if any(one == place and fact[0] == "tuple" and (fact[1], len(fact[2])) == (name, many)
                       for one, fact in facts):
                    found.add(3)
            case ("this", place, term):
                if (place, ("term", term)) in facts:
                    found.add(4)
            case ("same", one, other):
                if one == other or (one, ("place", other)) in facts:
                    found.add(5)
    return found


# Codes by chance.

TERMS = [0, 1, 2, -3, "a", "b", ("s", 0), ("s", "a"), ("t", 1, "a"), ("s", ("s", 1)), ("t", ("s", "a"), 2)]
NAMES = {"s": 1, "t": 2}
CALLS = [("e/2", "+-"), ("f/1", "+"), ("g/3", "-+-"), ("h/1", "-"), ("k/0", "")]
KINDS = ["this", "open", "same", "put", "make", "sum", "test", "call", "bar", "field", "mark"]


class CodeMaker:
    """Codes by chance, always the same for a seed; most of them fit the number of ins."""

    def __init__(self, seed, longest=9, wild=0.0, terms=()):
        self.random = random.Random(seed)
        self.terms = [*TERMS, *terms]
        self.many = self.random.randint(0, 3)
        self.wild = wild
        self.free = self.many
        self.known = list(range(self.many))
        self.codes = []
        for _ in range(self.random.randint(0, longest)):
            self.lay(self.random.choice(KINDS))
        self.codes.append(("tell", tuple(self.place() for _ in range(self.random.randint(0, 3)) if self.known)))

    def is_wild(self):
        return self.random.random() < self.wild

    def place(self):
        if self.is_wild():
            return self.random.randint(0, self.free + 1)
        return self.random.choice(self.known)

    def fresh(self, many):
        if self.is_wild():
            return self.random.randint(0, self.free)
        first, self.free = self.free, self.free + many
        return first

    def take(self, code, first, many):
        """Lays a code that writes places."""
        self.codes.append(code)
        self.known += range(first, first + many)

    def tree(self, deep=2):
        if deep == 0 or self.random.random() < 0.4:
            if self.known and self.random.random() < 0.6:
                return ("at", self.place())
            return self.random.randint(-2, 4)
        return (self.random.choice(["+", "-", "*", "//", "mod"]), self.tree(deep - 1), self.tree(deep - 1))

    def test(self):
        return (self.random.choice(["<", "=<", "==", "=/="]), self.tree(), self.tree())

    def row(self, many):
        many += self.is_wild()
        return tuple(self.place() for _ in range(many))

    def lay(self, kind):
        if kind in ("mark", "put", "sum", "test", "field", "call", "bar") or self.known:
            getattr(self, f"lay_{kind}")()

    def lay_mark(self):
        self.codes.append(("mark",))

    def lay_this(self):
        self.codes.append(("this", self.place(), self.random.choice([0, 1, "a", "b"])))

    def lay_same(self):
        self.codes.append(("same", self.place(), self.place()))

    def lay_open(self):
        name = self.random.choice("st")
        place, first = self.place(), self.fresh(NAMES[name])
        self.take(("open", place, name, first, NAMES[name]), first, NAMES[name])

    def lay_put(self):
        first = self.fresh(1)
        self.take(("put", first, self.random.choice([0, 1, "a", "b"])), first, 1)

    def lay_make(self):
        name = self.random.choice("st")
        row, first = tuple(self.place() for _ in range(NAMES[name])), self.fresh(1)
        self.take(("make", first, name, row), first, 1)

    def lay_sum(self):
        tree, first = self.tree(), self.fresh(1)
        self.take(("sum", first, tree), first, 1)

    def lay_test(self):
        self.codes.append(("test", *self.test()))

    def call(self):
        fitting = [call for call in CALLS if self.known or "+" not in call[1]]
        title, mode = self.random.choice(fitting)
        row = self.row(mode.count("+")) if self.known else ()
        return title, mode, row, mode.count("-")

    def lay_call(self):
        title, mode, row, many = self.call()
        first = self.fresh(many)
        self.take(("call", title, mode, row, first), first, many)

    def lay_bar(self):
        title, mode, row, many = self.call()
        known, first, start = list(self.known), self.fresh(many), len(self.codes)
        self.known += range(first, first + many)
        for _ in range(self.random.randint(0, 3)):
            self.lay(self.random.choice(["this", "open", "same"] + ["put", "call", "mark"] * self.is_wild()))
        many_within = len(self.codes) - start + self.is_wild()
        self.codes.insert(start, ("bar", title, mode, row, first, many_within))
        if not self.is_wild():
            self.known = known

    def lay_field(self):
        many = self.random.choice([1, 1, 2])
        ranges = tuple((self.random.choice([-1, 0, 1, self.tree(1)]), self.tree(1)) for _ in range(many))
        first = self.fresh(many)
        known = list(self.known)
        self.known += range(first, first + many)
        tests = tuple(self.test() for _ in range(self.random.choice([0, 0, 1, 2])))
        self.known = known
        self.take(("field", ranges, tests, first), first, many)

    def ins(self):
        return tuple(self.random.choice(self.terms) for _ in range(self.many))

    def told(self):
        """Rows by chance for every call that is asked for."""
        found = {}

        def rows(call):
            if call not in found:
                many = call[1].count("-")
                rows = [tuple(self.random.choice(self.terms) for _ in range(many))
                        for _ in range(self.random.randint(0, 3))]
                found[call] = list(dict.fromkeys(rows)) if self.random.random() < 0.8 else []
            return found[call]

        return rows, found
