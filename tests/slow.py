"""The document's words on sums, fields, programs, walks, lots, books and papers, done slowly and plainly."""

import itertools
import math
from fractions import Fraction

from tests import oracle

# No test looks for so many ways; where more would be found a lot is open anyhow.
POINTS, MOST, WAYS = 400, 200, 3000
SUM_SIGNS = ("+", "-", "*", "//", "mod")


class Opened(Exception):
    """What the document calls Open."""


def worth(tree, places):
    """[30]"""
    match tree:
        case int():
            return tree
        case ("at", k):
            return places[k] if isinstance(places[k], int) else None
    sign, left, right = tree
    one, two = worth(left, places), worth(right, places)
    if one is None or two is None or (sign in ("//", "mod") and two == 0):
        return None
    if sign in ("+", "-", "*"):
        return {"+": one + two, "-": one - two, "*": one * two}[sign]
    quotient = math.floor(Fraction(one, two))
    return quotient if sign == "//" else one - quotient * two


def holds(test, places):
    """[31]"""
    sign, *sides = test
    one, two = [worth(side, places) for side in sides]
    if one is None or two is None:
        return False
    return {"<": one < two, "=<": one <= two, "==": one == two, "=/=": one != two}[sign]


def ends(tree, box):
    """[34]"""
    match tree:
        case int():
            return (tree, tree)
        case ("at", k):
            return box[k]
    sign, left, right = tree
    one, two = ends(left, box), ends(right, box)
    if sign == "+":
        return (one[0] + two[0], one[1] + two[1])
    if sign == "-":
        return (one[0] - two[1], one[1] - two[0])
    if sign == "*":
        row = sorted(a * b for a, b in itertools.product(one, two))
        return (row[0], row[-1])
    most = max(abs(end) for end in (one if sign == "//" else two))
    return (-most, most)


def is_out(test, box):
    """[35]"""
    sign, left, right = test
    (a, b), (c, d) = ends(left, box), ends(right, box)
    return {"<": not a < d, "=<": a > d, "==": b < c or d < a, "=/=": len({a, b, c, d}) == 1}[sign]


def points(box, tests):
    """[33]"""
    every = itertools.product(*[range(low, high + 1) for low, high in box])
    return [point for point in every if all(holds(test, point) for test in tests)]


def is_tight(box, tests):
    """[36]"""
    if any(low > high for low, high in box):
        return False
    for k, pair in enumerate(box):
        for number in pair:
            narrow = box[:k] + ((number, number),) + box[k + 1:]
            if any(is_out(test, narrow) for test in tests):
                return False
    return True


def tight(box, tests):
    """The tight box within a box in which all others lie, of all boxes there are; None where there is none."""
    pairs = [[(a, b) for a in range(low, high + 1) for b in range(a, high + 1)] for low, high in box]
    found = [inner for inner in itertools.product(*pairs) if is_tight(inner, tests)]
    for inner in found:
        if all(a <= c and d <= b for other in found for (a, b), (c, d) in zip(inner, other)):
            return inner
    assert not found
    return None


def shows(box, tests, lines):
    """[37]: the points that a paper shows, None where it is none."""
    if any(low > high for low, high in box):
        return [] if lines == [] else None
    if not lines:
        return None

    def walked(number, box):
        match lines[number]:
            case ("cut", k, at, one, two):
                if k not in range(len(box)) or not (box[k][0] <= at < box[k][1]):
                    raise KeyError
                if one not in range(number) or two not in range(number):
                    raise KeyError
                low = box[:k] + ((box[k][0], at),) + box[k + 1:]
                high = box[:k] + ((at + 1, box[k][1]),) + box[k + 1:]
                return walked(one, low) + walked(two, high)
            case ("out", n):
                if n not in range(len(tests)) or not is_out(tests[n], box):
                    raise KeyError
                return []
        if any(low != high for low, high in box):
            raise KeyError
        return points(box, tests)

    try:
        return sorted(walked(len(lines) - 1, box))
    except KeyError:
        return None


# Goals.

def ranges_and_tests(field):
    match field:
        case ("such", box, tests):
            return oracle.row_by_and(box), oracle.row_by_and(tests)
    return oracle.row_by_and(field), []


def planted(reading, trees):
    """A sum or a test with trees in its unknowns' places."""
    if isinstance(reading, tuple):
        return (reading[0], *[planted(part, trees) for part in reading[1:]])
    return trees.get(reading, reading)


def worth_under(reading, filling):
    names = sorted(set(oracle.unknowns(reading)))
    trees = {name: ("at", k) for k, name in enumerate(names)}
    return worth(planted(reading, trees), [filling[name] for name in names])


def holds_under(test, filling):
    names = sorted(set(oracle.unknowns(test)))
    trees = {name: ("at", k) for k, name in enumerate(names)}
    return holds(planted(test, trees), [filling[name] for name in names])


def resolve(field, filling):
    """[32]: a pair (box, tests), None for no way."""
    ranges, tests = ranges_and_tests(field)
    box = []
    for _, _, (_, *sums) in ranges:
        worths = []
        for reading in sums:
            worths.append(worth_under(reading, filling))
            if worths[-1] is None:
                return None
            if len(str(abs(worths[-1]))) > 60:
                raise Opened
        box.append(tuple(worths))
    if any(low > high for low, high in box):
        return None
    if math.prod(high - low + 1 for low, high in box) > POINTS:
        raise Opened
    own = [part[1] for part in ranges]
    trees = {name: ("at", k) for k, name in enumerate(own)}
    for name in oracle.unknowns(("and", *tests)):
        if name not in own:
            if not isinstance(filling[name], int):
                return None
            trees[name] = filling[name]
    return tuple(box), tuple(planted(test, trees) for test in tests)


def matched(pattern, term, filling):
    """[8]: the new filling or None."""
    if oracle.is_unknown(pattern):
        return {**filling, pattern: term} if filling.get(pattern, term) == term else None
    if isinstance(pattern, tuple) and isinstance(term, tuple):
        if (pattern[0], len(pattern)) != (term[0], len(term)):
            return None
        return matched_row(pattern[1:], term[1:], filling)
    return filling if type(pattern) is type(term) and pattern == term else None


def matched_row(patterns, terms, filling):
    for pattern, term in zip(patterns, terms, strict=True):
        filling = matched(pattern, term, filling)
        if filling is None:
            return None
    return filling


def put(pattern, filling):
    """What is put together, measured by [41]."""
    term = planted(pattern, filling)
    if not oracle.fits(term):
        raise Opened
    return term


def title_of(pattern):
    return f"{pattern[0]}/{len(pattern) - 1}" if isinstance(pattern, tuple) else f"{pattern}/0"


def parts(pattern, mode, sign):
    return [pattern[1 + k] for k, other in enumerate(mode) if other == sign]


def relation(goal):
    """The relation pattern of a relation goal or a not."""
    if oracle.is_relation(goal):
        return goal
    return goal[1] if goal[0] == "not" else None


def call_order(calls):
    """[9]"""
    found = {}
    for title, mode, ins in calls:
        found.setdefault((title, mode), {})[ins] = True
    return [(*front, ins) for front in sorted(found) for ins in oracle.rows_in_order(found[front])]


class House:
    """[25] to [29]: a program, let by or refused as a pair (name, fields)."""

    def __init__(self, rows):
        self.rows = rows
        self.clauses = {line: row[1:] for line, row in enumerate(rows) if row[0] == "clause"}
        self.modes = {}
        self.tabled = set()
        for row in rows:
            if row[0] == "mode":
                modes = self.modes.setdefault(f"{row[1]}/{len(row[2])}", [])
                modes += [row[2]] if row[2] not in modes else []
            if row[0] == "table":
                self.tabled.add(f"{row[1]}/{row[2]}")
        self.titles = set(self.modes) | self.tabled
        for head, goals in self.clauses.values():
            self.titles |= {title_of(head)} | {title_of(relation(goal)) for goal in goals if relation(goal) is not None}
        self.edges = {(title_of(head), title_of(relation(goal))) for head, goals in self.clauses.values()
                      for goal in goals if relation(goal) is not None}
        self.comes = {(one, one) for one in self.titles} | self.edges
        for middle, one, other in itertools.product(sorted(self.titles), repeat=3):
            if (one, middle) in self.comes and (middle, other) in self.comes:
                self.comes.add((one, other))
        self.refusal = self.looked()

    def lines(self, name):
        return [line for line, (head, _) in self.clauses.items() if title_of(head) == name]

    def looked(self):
        for line, (head, goals) in self.clauses.items():
            for number, goal in enumerate((head, *goals)):
                if relation(goal) is not None and not self.modes.get(title_of(relation(goal))):
                    return "Modeless", {"line": line, "goal": number}
        for line, (head, goals) in self.clauses.items():
            for mode in self.modes[title_of(head)]:
                if isinstance(self.plan(line, mode), int):
                    return "Ill", {"line": line, "mode": mode, "goal": self.plan(line, mode)}
        for line, (head, goals) in self.clauses.items():
            for other in [title_of(relation(goal)) for goal in goals if relation(goal) is not None]:
                if (other, title_of(head)) in self.comes and (other in self.tabled) != (title_of(head) in self.tabled):
                    return "Mixed", {"line": line}
        for line, (head, goals) in self.clauses.items():
            for goal in goals:
                if not oracle.is_relation(goal) and relation(goal) is not None:
                    if (title_of(relation(goal)), title_of(head)) in self.comes:
                        return "Notring", {"line": line}
        return None

    def plan(self, line, mode):
        """A list, or the number of the goal that is ill."""
        head, goals = self.clauses[line]
        known, words = set(oracle.unknowns(("and", *parts(head, mode, "+")))), []
        for number, goal in enumerate(goals, 1):
            others = [head, *[other for at, other in enumerate(goals, 1) if at != number]]
            word = self.word(goal, known, set(oracle.unknowns(("and", *others))))
            if word is None:
                return number
            words.append(word)
            known |= set() if goal[0] == "not" else set(oracle.unknowns(goal))
        return words if set(oracle.unknowns(("and", *parts(head, mode, "-")))) <= known else len(goals) + 1

    def word(self, goal, known, elsewhere):
        def are_known(*patterns):
            return set(oracle.unknowns(("and", *patterns))) <= known

        if relation(goal) is not None:
            if goal[0] == "not" and (set(oracle.unknowns(goal)) - known) & elsewhere:
                return None
            fitting = [mode for mode in self.modes[title_of(relation(goal))]
                       if are_known(*parts(relation(goal), mode, "+"))]
            return fitting[0] if fitting else None
        match goal:
            case ("=", left, right):
                return "left" if are_known(left) else "right" if are_known(right) else None
            case ("is", _, reading):
                return "" if are_known(reading) else None
        if oracle.is_test(goal):
            return "" if are_known(goal) else None
        own = {part[1] for part in ranges_and_tests(goal)[0]}
        return "" if set(oracle.unknowns(goal)) - own <= known else None

    def layer(self, name):
        """The most nots on a road from a relation; a road goes through each pair of relations once at most."""
        layers = dict.fromkeys(self.titles, 0)
        for _ in range(len(self.titles) ** 2):
            for head, goals in self.clauses.values():
                for goal in goals:
                    if relation(goal) is not None:
                        step = 0 if oracle.is_relation(goal) else 1
                        layers[title_of(head)] = max(layers[title_of(head)], layers[title_of(relation(goal))] + step)
        return layers.get(name, 0)

    def has_call(self, call):
        name, mode, ins = call
        return name in self.titles and mode in self.modes.get(name, []) and len(ins) == mode.count("+")

    # [38] to [42]

    def walk_clause(self, line, mode, ins, told, bars=None):
        """Answers, marks and met, found way by way to the end; told and bars tell rows by calls."""
        head, goals = self.clauses[line]
        plan, marks, met, answers = self.plan(line, mode), [0] * len(goals), [], []

        def go(number, filling):
            if number == len(goals):
                answers.append(tuple([put(part, filling) for part in parts(head, mode, "-")]))
                return
            for other in self.behind(goals[number], plan[number], filling, told, bars or told, met):
                marks[number] += 1
                if sum(marks) > WAYS:
                    raise Opened
                go(number + 1, other)

        first = matched_row(parts(head, mode, "+"), ins, {})
        if first is not None:
            go(0, first)
        return answers, marks, call_order(met)

    def behind(self, goal, word, filling, told, bars, met):
        """The fillings behind a goal."""
        if relation(goal) is not None:
            pattern = relation(goal)
            call = (title_of(pattern), word, tuple([put(part, filling) for part in parts(pattern, word, "+")]))
            met.append(call)
            rows = bars(call) if goal[0] == "not" else told(call)
            ways = [matched_row(parts(pattern, word, "-"), row, filling) for row in rows]
            ways = [way for way in ways if way is not None]
            return ways if goal[0] != "not" else [] if ways else [filling]
        match goal:
            case ("=", left, right):
                known, other = (left, right) if word == "left" else (right, left)
                ways = [matched(other, put(known, filling), filling)]
            case ("is", left, reading):
                number = worth_under(reading, filling)
                if number is not None and len(str(abs(number))) > 60:
                    raise Opened
                ways = [None if number is None else matched(left, number, filling)]
            case _ if oracle.is_test(goal):
                ways = [filling if holds_under(goal, filling) else None]
            case _:
                field = resolve(goal, filling)
                names = [part[1] for part in ranges_and_tests(goal)[0]]
                ways = [matched_row(names, point, filling) for point in points(*field)] if field else []
        return [way for way in ways if way is not None]

    def walk(self, call, told, bars=None):
        """[42], whatever the number of ways is."""
        name, mode, ins = call
        walks = [self.walk_clause(line, mode, ins, told, bars) for line in self.lines(name)]
        answers = list(dict.fromkeys(row for found, _, _ in walks for row in found))
        return answers, call_order([other for _, _, met in walks for other in met]), sum(sum(m) for _, m, _ in walks)

    # [44] to [50]

    def lot(self, call, most=MOST):
        """A dict from calls to rows, in order; the calls of nots by lots of their own."""
        found, finished = {call: []}, {}

        def bars(other):
            if other not in finished:
                finished[other] = self.lot(other, most)
            return finished[other][other]

        def told(other):
            return found.get(other, [])

        while True:
            before = {other: list(rows) for other, rows in found.items()}
            for other in list(found):
                answers, met, ways = self.walk(other, told, bars)
                found[other] = list(dict.fromkeys(found[other] + answers))
                for one in met:
                    found.setdefault(one, [])
                for lot in finished.values():
                    for one, rows in lot.items():
                        found[one] = list(dict.fromkeys(found.get(one, []) + rows))
                if ways + len(found) + sum(len(rows) for rows in found.values()) > most:
                    raise Opened
            if found == before:
                break
        told_list = {other: oracle.rows_in_order(found[other]) for other in call_order(found)}
        ways = sum(self.walk(other, told, told)[2] for other in found)
        if len(found) + sum(len(rows) for rows in found.values()) + ways > most:
            raise Opened
        return told_list

    def leads(self, lot):
        return {call: self.walk(call, lambda other: lot.get(other, []))[1] for call in lot}

    def is_loose(self, call):
        return call[0] not in self.tabled

    def verdict(self, call, most=MOST):
        try:
            lot = self.lot(call, most)
        except Opened:
            return "open"
        leads = self.leads(lot)
        reach = {one: set(calls) for one, calls in leads.items()}
        for _ in lot:
            reach = {one: calls.union(*[leads[other] for other in calls]) for one, calls in reach.items()}
        return "round" if any(one in reach[one] for one in lot if self.is_loose(one)) else "book"

    def search(self, call, lot):
        """[48]: the answers of the plain search, each at its first coming."""
        found = {}

        def rows(other):
            if other not in found:
                found[other] = self.walk(other, rows)[0] if self.is_loose(other) else lot[other]
            return found[other]

        return rows(call)

    def plain_search(self, call, lot):
        """[48] to the letter: each goal's call is searched anew, and answers are told as often as they come."""
        if not self.is_loose(call):
            return lot[call]
        name, mode, ins = call
        walks = [self.walk_clause(line, mode, ins, lambda other: self.plain_search(other, lot))
                 for line in self.lines(name)]
        return [row for answers, _, _ in walks for row in answers]

    def floor(self, call, leads):
        if not self.is_loose(call):
            return 0
        return max([self.floor(other, leads) + 1 for other in leads[call] if self.is_loose(other)], default=0)

    def book(self, call, most=MOST):
        lot = self.lot(call, most)
        leads = self.leads(lot)
        calls = sorted(lot, key=lambda other: self.floor(other, leads))
        return [(other, self.search(other, lot)) for other in calls]

    # [51] to [56]

    def step_holds(self, told, steps, number):
        call, row, line, marks = steps[number]
        name, mode, ins = call
        if not self.has_call(call) or line not in self.lines(name):
            return False
        head, goals = self.clauses[line]
        if len(marks) != len(goals):
            return False
        filling = matched_row(parts(head, mode, "+"), ins, {})
        try:
            for goal, word, mark in zip(goals, self.plan(line, mode), marks):
                if filling is None:
                    return False
                filling = self.stepped(goal, word, mark, filling, told, steps[:number])
            return filling is not None and tuple(put(part, filling) for part in parts(head, mode, "-")) == row
        except Opened:
            return False

    def stepped(self, goal, word, mark, filling, told, ahead):
        """The filling behind a goal of a step, or None."""
        pattern = relation(goal)
        if pattern is not None:
            call = (title_of(pattern), word, tuple(put(part, filling) for part in parts(pattern, word, "+")))
            outs = parts(pattern, word, "-")
            if goal[0] != "not":
                if type(mark) is not int or mark not in range(len(ahead)) or ahead[mark][0] != call:
                    return None
                return matched_row(outs, ahead[mark][1], filling)
            if mark is not None or call not in told:
                return None
            return None if any(matched_row(outs, row, filling) is not None for row in told[call]) else filling
        if goal[0] in ("such", "and", "in"):
            field = resolve(goal, filling)
            if field is None or mark not in points(*field):
                return None
            return matched_row([part[1] for part in ranges_and_tests(goal)[0]], mark, filling)
        ways = self.behind(goal, word, filling, None, None, [])
        return ways[0] if ways and mark is None else None

    def are_calls(self, pairs, call):
        """The first row of [52]."""
        calls = [other for other, _ in pairs]
        return (
            call in calls and all(self.has_call(other) for other in calls) and len(set(calls)) == len(calls)
            and all(len(set(rows)) == len(rows) for _, rows in pairs)
        )

    def met_within(self, call, told):
        """A walk by a told dict, or None where it is refused or meets a call that is not told."""
        try:
            answers, met, ways = self.walk(call, lambda other: told.get(other, []))
        except Opened:
            return None
        return (answers, met) if ways <= MOST and all(other in told for other in met) else None

    def are_steps(self, pairs, steps, needing):
        told = dict(pairs)
        have = {(call, row) for call, row, _, _ in steps}
        return (
            all(call in told and row in told[call] for call, row in have)
            and all(self.step_holds(told, steps, number) for number in range(len(steps)))
            and all((call, row) in have for call in needing for row in told[call])
        )

    def warrant_holds(self, call, paper):
        """[52]"""
        book, steps = paper
        if not self.are_calls(book, call):
            return False
        told, calls = dict(book), [other for other, _ in book]
        for number, (other, rows) in enumerate(book):
            found = self.met_within(other, told)
            if found is None:
                return False
            answers, met = found
            if self.is_loose(other):
                ahead = calls[:number]
                if answers != rows or any(self.is_loose(one) and one not in ahead for one in met):
                    return False
            elif oracle.rows_in_order(answers) != rows:
                return False
        return self.are_steps(book, steps, [other for other in calls if not self.is_loose(other)])

    def turn_holds(self, call, paper):
        """[54]"""
        lot, steps, ring = paper
        if not self.are_calls(lot, call):
            return False
        told, meets = dict(lot), {}
        for other, rows in lot:
            found = self.met_within(other, told)
            if found is None or oracle.rows_in_order(found[0]) != rows:
                return False
            meets[other] = found[1]
        if not self.are_steps(lot, steps, list(told)) or len(ring) < 2 or ring[0] != call:
            return False
        if any(other not in meets[one] for one, other in zip(ring, ring[1:])):
            return False
        places = [at for at in range(len(ring) - 1) if ring[at] == ring[-1]]
        return any(all(self.is_loose(other) for other in ring[at:]) for at in places)

    def grounds_hold(self, call, row, lot, steps):
        """[56], and that no call and row has two steps ([55])."""
        named = {mark for _, _, _, marks in steps for mark in marks if type(mark) is int}
        return (
            steps[-1][:2] == (call, row) and named == set(range(len(steps) - 1))
            and all(self.step_holds(lot, steps, number) for number in range(len(steps)))
            and are_unlike(steps)
        )


def are_unlike(steps):
    """Whether no call and row has two steps."""
    return len({step[:2] for step in steps}) == len(steps)
