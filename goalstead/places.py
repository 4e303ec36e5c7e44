"""The places that codes read and write, and the codes that stand within bars."""


def grouped(codes):
    """Pairs of a code and the codes within it: the N behind a bar, none of other codes."""
    pairs = []
    at = 0
    while at < len(codes):
        end = at + 1 + _many_within(codes[at])
        pairs.append((codes[at], codes[at + 1:end]))
        at = end
    return pairs


def _many_within(code):
    return code[5] if code[0] == "bar" else 0


def places_in(tree):
    """The places in a tree, as often as they stand there."""
    if isinstance(tree, int):
        return []
    if tree[0] == "at":
        return [tree[1]]
    return places_in(tree[1]) + places_in(tree[2])


def read_by(code):
    """The places that a code reads; those within a bar not counted."""
    kind = code[0]
    if kind in ("this", "open"):
        return [code[1]]
    if kind == "same":
        return [code[1], code[2]]
    if kind in ("make", "call", "bar"):
        return list(code[3])
    if kind == "sum":
        return places_in(code[2])
    if kind == "test":
        return places_in(code[2]) + places_in(code[3])
    if kind == "field":
        return _read_by_field(code)
    return list(code[1]) if kind == "tell" else []


def _read_by_field(code):
    _, ranges, tests, _ = code
    own = written_by(code)
    found = []
    for low, high in ranges:
        found += places_in(low) + places_in(high)
    for _, left, right in tests:
        found += [place for place in places_in(left) + places_in(right) if place not in own]
    return found


def written_by(code):
    """The places that a code writes; those within a bar not counted."""
    kind = code[0]
    if kind in ("put", "make", "sum"):
        return [code[1]]
    if kind == "open":
        return _row_from(code[3], code[4])
    if kind in ("call", "bar"):
        return _row_from(code[4], code[2].count("-"))
    return _row_from(code[3], len(code[1])) if kind == "field" else []


def _row_from(first, many):
    return list(range(first, first + many))


def renamed(code, names):
    """The code, with other names for places that it reads; those within a bar are not touched."""
    kind = code[0]
    if kind in ("this", "open"):
        return (kind, names.get(code[1], code[1]), *code[2:])
    if kind == "same":
        return (kind, *_renamed_places(code[1:], names))
    if kind in ("make", "call", "bar"):
        return (*code[:3], _renamed_places(code[3], names), *code[4:])
    if kind == "sum":
        return (kind, code[1], _renamed_tree(code[2], names))
    if kind == "test":
        return _renamed_trees(code, 2, names)
    if kind == "field":
        ranges = tuple([_renamed_trees(pair, 0, names) for pair in code[1]])
        tests = tuple([_renamed_trees(test, 1, names) for test in code[2]])
        return (kind, ranges, tests, code[3])
    return (kind, _renamed_places(code[1], names)) if kind == "tell" else code


def _renamed_places(places, names):
    return tuple([names.get(place, place) for place in places])


def _renamed_trees(row, start, names):
    """A tuple in which trees stand from `start` on."""
    return (*row[:start], *[_renamed_tree(tree, names) for tree in row[start:]])


def _renamed_tree(tree, names):
    if isinstance(tree, int):
        return tree
    if tree[0] == "at":
        return ("at", names.get(tree[1], tree[1]))
    return _renamed_trees(tree, 1, names)
