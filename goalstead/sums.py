"""Sums: trees that are reckoned at places, tests of two trees, and the ends of both over a box."""


def worth_of(tree, places):
    """The number that a tree tells at these places, or None.

    A goal's sum is reckoned likewise under a filling: its unknowns are the places then.
    """
    if isinstance(tree, int):
        return tree
    if isinstance(tree, str):
        return _number_in(places[tree])
    if tree[0] == "at":
        return _number_in(places[tree[1]])
    left = worth_of(tree[1], places)
    right = worth_of(tree[2], places)
    if left is None or right is None:
        return None
    return _reckoned(tree[0], left, right)


def _number_in(term):
    return term if isinstance(term, int) else None


def _reckoned(sign, left, right):
    if sign == "+":
        return left + right
    if sign == "-":
        return left - right
    if sign == "*":
        return left * right
    if right == 0:
        return None
    return left // right if sign == "//" else left % right


def ends_of(tree, box):
    """A number that no worth over the box is below, and one that none is above."""
    if isinstance(tree, int):
        return (tree, tree)
    if tree[0] == "at":
        return box[tree[1]]
    return _joined(tree[0], ends_of(tree[1], box), ends_of(tree[2], box))


def _joined(sign, left, right):
    """The ends of two trees joined by a sign."""
    low, high = left
    other_low, other_high = right
    if sign == "+":
        return (low + other_low, high + other_high)
    if sign == "-":
        return (low - other_high, high - other_low)
    if sign == "*":
        products = [one * other for one in left for other in right]
        return (min(products), max(products))
    if sign == "//":
        most = max(abs(low), abs(high))
    else:
        most = max(abs(other_low), abs(other_high))
    return (-most, most)


def holds(test, places):
    """Whether both sides of a test have a worth at these places and are as its sign says."""
    sign, one, other = test
    left = worth_of(one, places)
    right = worth_of(other, places)
    if left is None or right is None:
        return False
    if sign == "<":
        return left < right
    if sign == "=<":
        return left <= right
    if sign == "==":
        return left == right
    return left != right


def out(test, box):
    """Whether the ends alone show that a test holds at no point of the box."""
    sign, one, other = test
    low, high = ends_of(one, box)
    other_low, other_high = ends_of(other, box)
    if sign == "<":
        return low >= other_high
    if sign == "=<":
        return low > other_high
    if sign == "==":
        return high < other_low or other_high < low
    return low == high == other_low == other_high


def tree_of(reading, trees):
    """The tree of a goal's sum: for each unknown stands the tree that is told for it."""
    if isinstance(reading, int):
        return reading
    if isinstance(reading, str):
        return trees[reading]
    return (reading[0], tree_of(reading[1], trees), tree_of(reading[2], trees))


def tree_at(tree, seats):
    """A tree in which what is told for each place stands for it."""
    if isinstance(tree, int):
        return tree
    if tree[0] == "at":
        return seats[tree[1]]
    return (tree[0], tree_at(tree[1], seats), tree_at(tree[2], seats))


def placed_test(reading, trees):
    """The test that a goal's test is, its sums' trees made likewise."""
    return (reading[0], tree_of(reading[1], trees), tree_of(reading[2], trees))
