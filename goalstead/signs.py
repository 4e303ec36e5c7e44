"""The signs of which texts are made, and the kinds of texts, told by their first sign."""

SMALLS = "abcdefghijklmnopqrstuvwxyz"
CAPITALS = "ABCDEFGHIJKLMNOPQRSTUVWXYZ"
DIGITS = "0123456789"
MARKS = "+-*/<>=&!?^@#:|.$"

KEPT = (
    "op", "mode", "table", "not", "is", "in", "such", "and",
    "=", "<", "=<", "==", "=/=", "..", "<-",
)


def is_word(part):
    return isinstance(part, str) and part[0] in SMALLS


def is_unknown(part):
    return isinstance(part, str) and part[0] in CAPITALS


def is_mark(part):
    return isinstance(part, str) and part[0] in MARKS


def is_kept(part):
    return part in KEPT


def is_name(part):
    return (is_word(part) or is_mark(part)) and not is_kept(part)
