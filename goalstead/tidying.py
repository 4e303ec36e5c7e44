"""Codes tidied: what the facts of the codes ahead already tell is neither done nor looked at again."""

from goalstead.codes import fits
from goalstead.places import grouped, read_by, renamed


def tidied(codes, many):
    """Tidy codes that do what these do, which fit that number of ins."""
    tidying = Tidying()
    found = []
    for code, within in grouped(codes):
        kept = tidying.kept(code)
        if kept is None:
            continue
        if code[0] == "bar":
            inner = tidying.kept_within(within)
            found += [(*kept[:5], len(inner)), *inner]
        else:
            found.append(kept)
    return _without_unread(found)


def is_tidy(codes, many):
    """Whether codes fit that number of ins and are tidy."""
    return fits(codes, many) and tidied(codes, many) == codes


def _without_unread(codes):
    """The codes but for puts whose places no code behind them reads."""
    read = {}
    found = []
    for code in reversed(codes):
        if code[0] != "put" or code[1] in read:
            found.append(code)
        for place in read_by(code):
            read[place] = True
    return found[::-1]


class Tidying:
    """The facts of the codes so far, and where what was left out is held instead.

    Behind a code that is let by its facts hold for every state, so a code
    that would only tell such a fact again can be left out, and what it would
    write is read where it stands already.
    """

    def __init__(self):
        self.facts = {}
        self.names = {}

    def kept(self, code):
        """The code by the names of now, or None where it is left out."""
        code = renamed(code, self.names)
        kind = code[0]
        if kind in ("put", "make"):
            return self.kept_writer(code)
        if kind == "open":
            return self.kept_open(code)
        if kind in ("this", "same"):
            return self.kept_look(code)
        return code

    def kept_within(self, codes):
        """What is kept of a bar's codes, whose facts count among these alone."""
        facts = {fact: self.facts[fact] for fact in self.facts}
        found = [self.kept(code) for code in codes]
        self.facts = facts
        return [code for code in found if code is not None]

    def kept_writer(self, code):
        """A put or a make, left out where some place is by a fact what its place would be."""
        place = code[1]
        worth = ("is", *code[2:])
        if worth in self.facts:
            self.names[place] = self.facts[worth]
            return None
        if code[0] == "put":
            self.take_term(place, code[2])
        else:
            self.take_tuple(place, code[2], code[3])
        return code

    def kept_open(self, code):
        """An open, left out where its place is by a fact a tuple of that name and as many places."""
        _, place, name, first, many = code
        parts = tuple(range(first, first + many))
        known = self.facts.get(("parts", place, name, many))
        if known is not None:
            for part, other in zip(parts, known):
                self.names[part] = other
            return None
        self.take_tuple(place, name, parts)
        return code

    def kept_look(self, code):
        """A this or a same, left out where it is a fact, or looks at one place twice."""
        if code in self.facts or (code[0] == "same" and code[1] == code[2]):
            return None
        if code[0] == "this":
            self.take_term(code[1], code[2])
        else:
            self.facts[code] = True
            self.facts[("same", code[2], code[1])] = True
        return code

    def take_term(self, place, term):
        self.facts[("this", place, term)] = True
        self.facts.setdefault(("is", term), place)

    def take_tuple(self, place, name, parts):
        self.facts[("parts", place, name, len(parts))] = parts
        self.facts.setdefault(("is", name, parts), place)
