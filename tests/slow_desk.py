"""The document's words on desks, done slowly and plainly: everything is reckoned anew whenever it is asked for."""

from goalstead.reader import read_text
from tests import oracle, slow


def house_of(lines):
    """The house of a text that is let by."""
    house = slow.House(read_text(lines)[1])
    assert house.refusal is None
    return house


def call_of(house, pattern):
    """[66]: the call of a question, or None where NoMode refuses it."""
    for mode in house.modes.get(slow.title_of(pattern), []):
        if not oracle.unknowns(("and", *slow.parts(pattern, mode, "+"))):
            return slow.title_of(pattern), mode, tuple(slow.parts(pattern, mode, "+"))
    return None


def state_of(house, pattern, most):
    """[67], and ("lost",)."""
    call = call_of(house, pattern)
    if call is None:
        return ("lost",)
    verdict = house.verdict(call, most)
    if verdict != "book":
        return (verdict,)
    names = list(dict.fromkeys(oracle.unknowns(pattern)))
    rows = dict(house.book(call, most))[call]
    found = [slow.matched_row(slow.parts(pattern, call[1], "-"), row, {}) for row in rows]
    return ("book", [tuple(filling[name] for name in names) for filling in found if filling is not None])


class SlowDesk:
    """A desk's text, deeds and kept questions by [69] to [72]; deeds are handed in as they are done."""

    def __init__(self, lines, most=200):
        self.lines, self.most = list(lines), most
        self.done, self.undone = [], []
        self.many, self.kept = 0, {}

    def keep(self, name, pattern):
        self.kept[name] = [pattern, state_of(house_of(self.lines), pattern, self.most), self.many]

    def deed(self, word, *places):
        """What the text would be behind a deed."""
        lines = list(self.lines)
        if word == "put":
            lines.insert(*places)
        elif word == "cut":
            lines.pop(*places)
        elif word == "change":
            lines[places[0]] = places[1]
        elif word == "undo":
            lines = self.done[-1]
        else:
            lines = self.undone[-1]
        return lines

    def do(self, word, *places):
        """Does a deed that is let by; tells the news."""
        lines, before = self.deed(word, *places), self.lines
        if word == "undo":
            self.undone.append(self.lines)
            self.done.pop()
        elif word == "again":
            self.done.append(self.lines)
            self.undone.pop()
        else:
            self.done.append(self.lines)
            self.undone = []
        self.lines = lines
        self.many += 1
        return self.reckoned(house_of(before), house_of(lines))

    def reckoned(self, before, behind):
        news = []
        for name, kept in self.kept.items():
            pattern, state, _ = kept
            if state in [("open",), ("lost",)] or self.is_touched(pattern, before, behind):
                kept[2] = self.many
            kept[1] = state_of(behind, pattern, self.most)
            if kept[1] != state:
                news.append((name, kept[1]))
        return news

    def is_touched(self, pattern, before, behind):
        """[71]"""
        lot = before.lot(call_of(before, pattern), self.most)
        return any(told_of(before, title) != told_of(behind, title) for title, _, _ in lot)


def told_of(house, title):
    return ([house.clauses[line] for line in house.lines(title)], house.modes.get(title, []), title in house.tabled)
