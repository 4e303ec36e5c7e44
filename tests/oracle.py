"""The document's words on pieces, readings and the order of terms, done slowly and plainly."""

import functools
import re

KEPT_WORDS = ("op", "mode", "table", "not", "is", "in", "such", "and")
KEPT_MARKS = ("=", "<", "=<", "==", "=/=", "..", "<-")

OWN = [
    (9, "none", "such"), (8, "right", "and"), (7, "none", "in"), (7, "ahead", "not"),
    (6, "none", "="), (6, "none", "is"), (6, "none", "<"), (6, "none", "=<"),
    (6, "none", "=="), (6, "none", "=/="), (6, "none", ".."),
    (4, "left", "+"), (4, "left", "-"), (3, "left", "*"), (3, "left", "//"), (3, "left", "mod"),
]

PIECE = re.compile(r"~?[0-9]+|[A-Z]?[a-z0-9]+|[A-Z]|[-+*/<>=&!?^@#:|.$]+|[(),]|[^ ]")
GOOD = re.compile(
    r"0|~?[1-9][0-9]{0,59}|[a-z][a-z0-9]{0,11}|[A-Z][a-z0-9]{0,11}"
    r"|[-+*/<>=&!?^@#:|.$]{1,3}|[(),]"
)


def pieces(line):
    """The pieces of a line, or the place of the first that is none."""
    found = []
    for match in PIECE.finditer(line):
        if not GOOD.fullmatch(match.group()):
            return match.start()
        found.append(match.group())
    return found


class Readings:
    """All readings of all runs of pieces, made by the rows of [15] alone."""

    def __init__(self, row, told):
        self.row = row
        self.between = {name: (level, side) for level, side, name in OWN + told if side != "ahead"}
        self.ahead = {name: level for level, side, name in OWN + told if side == "ahead"}
        self.known = {}

    def of(self, start, end):
        """The set of pairs (pattern, level) that the pieces from start to end can be read as."""
        if (start, end) not in self.known:
            found = set()
            if end - start == 1:
                found |= self.single(self.row[start])
            if end - start > 1:
                found |= self.bracketed(start, end) | self.named(start, end)
                found |= self.parted(start, end) | self.led(start, end)
            self.known[start, end] = found
        return self.known[start, end]

    def is_free_word(self, piece):
        taken = piece in KEPT_WORDS or piece in self.between or piece in self.ahead
        return "a" <= piece[0] <= "z" and not taken

    def single(self, piece):
        if piece[0] == "~":
            return {(-int(piece[1:]), 0)}
        if piece.isdigit():
            return {(int(piece), 0)}
        if "A" <= piece[0] <= "Z" or self.is_free_word(piece):
            return {(piece, 0)}
        return set()

    def bracketed(self, start, end):
        if self.row[start] == "(" and self.row[end - 1] == ")":
            return {(pattern, 0) for pattern, _ in self.of(start + 1, end - 1)}
        return set()

    def named(self, start, end):
        name = self.row[start]
        if not self.is_free_word(name) or self.row[start + 1] != "(" or self.row[end - 1] != ")":
            return set()
        return {((name, *parts), 0) for parts in self.rows(start + 2, end - 1, 4)}

    def rows(self, start, end, most):
        if most == 0:
            return []
        found = [(pattern,) for pattern, _ in self.of(start, end)]
        for at in range(start + 1, end):
            if self.row[at] == ",":
                for first, _ in self.of(start, at):
                    found += [(first, *rest) for rest in self.rows(at + 1, end, most - 1)]
        return found

    def parted(self, start, end):
        found = set()
        for at in range(start + 1, end - 1):
            name = self.row[at]
            if name in self.between:
                level, side = self.between[name]
                left_most = level if side == "left" else level - 1
                right_most = level if side == "right" else level - 1
                for left, left_level in self.of(start, at):
                    for right, right_level in self.of(at + 1, end):
                        if left_level <= left_most and right_level <= right_most:
                            found.add(((name, left, right), level))
        return found

    def led(self, start, end):
        name = self.row[start]
        if name not in self.ahead:
            return set()
        level = self.ahead[name]
        return {((name, part), level) for part, low in self.of(start + 1, end) if low < level}


def reading(row, told):
    """The one reading of a row of pieces, or None."""
    found = Readings(row, told).of(0, len(row))
    assert len(found) <= 1, (row, told, found)
    return next(iter(found))[0] if found else None


def kept_names(pattern):
    """Whether a kept word or mark stands in a reading."""
    if isinstance(pattern, tuple):
        return pattern[0] in KEPT_WORDS + KEPT_MARKS or any(kept_names(part) for part in pattern[1:])
    return False


def compare(one, two):
    """Below nought where one is ahead of two in the order of terms, nought where they are alike."""
    kinds = [0 if isinstance(term, int) else 1 if isinstance(term, str) else 2 for term in (one, two)]
    if kinds[0] != kinds[1]:
        return kinds[0] - kinds[1]
    if kinds[0] < 2:
        return -1 if one < two else 1 if one > two else 0
    if len(one) != len(two):
        return len(one) - len(two)
    if one[0] != two[0]:
        return -1 if one[0] < two[0] else 1
    return compare_rows(one[1:], two[1:])


def compare_rows(one, two):
    for left, right in zip(one, two):
        if compare(left, right) != 0:
            return compare(left, right)
    return 0


def in_order(terms):
    return sorted(terms, key=functools.cmp_to_key(compare))


def rows_in_order(rows):
    return sorted(rows, key=functools.cmp_to_key(compare_rows))


def is_relation(reading):
    return not isinstance(reading, int) and not is_unknown(reading) and not kept_names(reading)


def is_unknown(reading):
    return isinstance(reading, str) and "A" <= reading[0] <= "Z"


def is_sum(reading):
    match reading:
        case (("+" | "-" | "*" | "//" | "mod"), left, right):
            return is_sum(left) and is_sum(right)
    return isinstance(reading, int) or is_unknown(reading)


def is_test(reading):
    match reading:
        case (("<" | "=<" | "==" | "=/="), left, right):
            return is_sum(left) and is_sum(right)
    return False


def row_by_and(reading):
    match reading:
        case ("and", first, rest):
            return [first, *row_by_and(rest)]
    return [reading]


def unknowns(pattern):
    if isinstance(pattern, tuple):
        return [name for part in pattern[1:] for name in unknowns(part)]
    return [pattern] if is_unknown(pattern) else []


def is_box(reading):
    names, others = [], []
    for part in row_by_and(reading):
        match part:
            case ("in", name, ("..", low, high)) if is_unknown(name) and is_sum(low) and is_sum(high):
                names.append(name)
                others += unknowns(low) + unknowns(high)
            case _:
                return False
    alike = any(names.count(name) > 1 or name in others for name in names)
    return len(names) <= 3 and not alike


def is_goal(reading):
    """The rows of [19]."""
    match reading:
        case ("not", part):
            return is_relation(part)
        case ("=", left, right):
            return not kept_names(left) and not kept_names(right)
        case ("is", left, right):
            return not kept_names(left) and is_sum(right)
        case ("such", box, tests):
            rows = row_by_and(tests)
            return is_box(box) and all(is_test(part) for part in rows) and len(rows) <= 4
    return is_relation(reading) or is_test(reading) or is_box(reading)


def size(pattern):
    return 1 + sum(size(part) for part in pattern[1:]) if isinstance(pattern, tuple) else 1


def depth(pattern):
    return 1 + max(depth(part) for part in pattern[1:]) if isinstance(pattern, tuple) else 1


def fits(pattern):
    return size(pattern) <= 60 and depth(pattern) <= 12


NAME = r"(?!(?:op|mode|table|not|is|in|such|and|=|<|=<|==|=/=|\.\.|<-) )(?:[a-z][a-z0-9]*|[-+*/<>=&!?^@#:|.$]+)"
OP_LINE = re.compile(r"op ([1-9]) (left|right|none|ahead) ([a-z][a-z0-9]*|[-+*/<>=&!?^@#:|.$]+) ")
MODE_LINE = re.compile(r"mode (" + NAME + r") (?:\( ((?:(?:in|out) , ){0,3}(?:in|out)) \) )?")
TABLE_LINE = re.compile(r"table (" + NAME + r") ([0-4]) ")


def term(row, told):
    """What read_term tells of these pieces, or the name of its refusal."""
    return shaped(row, told, lambda found: not kept_names(found))


def goal(row, told):
    return shaped(row, told, is_goal)


def shaped(row, told, fitting):
    found = reading(row, told)
    if found is None or not fitting(found):
        return "BadShape"
    return [found] if fits(found) else "BadSize"


def line(row, told):
    """What read_line tells of these pieces, in a list, or the name of its refusal."""
    text = "".join(f"{piece} " for piece in row)
    if not row:
        return [("blank",)]
    if row[0] == "op":
        match = OP_LINE.fullmatch(text)
        return [("op", int(match[1]), match[2], match[3])] if match else "BadShape"
    if row[0] == "mode":
        match = MODE_LINE.fullmatch(text)
        signs = {"in": "+", "out": "-", ",": ""}
        return [("mode", match[1], "".join(signs[word] for word in (match[2] or "").split()))] if match else "BadShape"
    if row[0] == "table":
        match = TABLE_LINE.fullmatch(text)
        return [("table", match[1], int(match[2]))] if match else "BadShape"
    return clause(row, told)


def clause(row, told):
    at = row.index("<-") if "<-" in row else len(row)
    parts = [shaped(row[:at], told, is_relation)]
    parts += [goal(part, told) for part in parted(row[at + 1:])] if at < len(row) else []
    if "BadShape" in parts or len(parts) > 7:
        return "BadShape"
    if "BadSize" in parts:
        return "BadSize"
    return [("clause", parts[0][0], tuple(part[0] for part in parts[1:]))]


def parted(row):
    """The runs of pieces between those commas that stand in no bracket."""
    found, start, brackets = [], 0, 0
    for at, piece in enumerate(row):
        brackets += (piece == "(") - (piece == ")")
        if piece == "," and brackets == 0:
            found.append(row[start:at])
            start = at + 1
    return [*found, row[start:]]
