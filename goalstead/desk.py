"""Desks, which keep goals while their text is edited line by line."""

from goalstead.bounds import MOST
from goalstead.errors import NoAnswer, NoName, NoPaper, NoPlace, NoStep, Open, Round, Taken
from goalstead.image import Image
from goalstead.keeping import Kept
from goalstead.papers import grounds_of, turn_of, warrant_of
from goalstead.questions import asked, call_asked, read_question
from goalstead.texts import Text
from goalstead.writer import said_step, written_line


class Desk:
    """A text that is always let by, its image, and the questions that are kept."""

    def __init__(self, lines, *, most=MOST):
        self.busy = False
        self._most = most
        self._text = Text(lines)
        self._image = Image(self._text.program)
        self._done = []
        self._undone = []
        self._many = 0
        self._log = []
        self._kept = {}

    def put(self, at, line):
        """Lays a line ahead of a line, or at the end."""
        return self._work("put", self._put, at, line)

    def cut(self, at):
        """Takes a line out."""
        return self._work("cut", self._cut, at)

    def change(self, at, line):
        """Lays a line in the place of a line."""
        return self._work("change", self._change, at, line)

    def undo(self):
        """Brings the text back as it was ahead of the last deed on it that is not undone."""
        return self._work("undo", self._undo)

    def again(self):
        """Brings the text back as it was behind the deed that was undone last."""
        return self._work("again", self._again)

    def keep(self, name, question):
        """Keeps a question by a name; tells its state."""
        return self._work("keep", self._keep, name, question)

    def drop(self, name):
        """Lets a kept question go."""
        return self._work("drop", self._drop, name)

    def lines(self):
        return list(self._text.all_lines)

    def neat(self):
        """The written forms of the lines."""
        return [written_line(row, self._text.operators) for row in self._text.rows]

    def deeds(self):
        """How many deeds were done."""
        return self._many

    def log(self):
        return list(self._log)

    def kept(self):
        """The names of the kept questions, in the order of keeping."""
        return list(self._kept)

    def births(self):
        return {name: kept.born for name, kept in self._kept.items()}

    def state(self, name):
        """The state of a kept question."""
        return self._kept_by(name).state_now()

    def birth(self, name):
        """How many deeds had been done when the state of a kept question was last reckoned."""
        return self._kept_by(name).born

    def ask(self, question, *, by_codes=False):
        """The state of a question."""
        house = self._image if by_codes else self._text.program
        return asked(house, self._pattern_of(question), self._most).state_found()

    def paper(self, question):
        """A warrant or a turn of a question's call."""
        program = self._text.program
        call = call_asked(program, self._pattern_of(question))
        try:
            book, steps = warrant_of(program, call, most=self._most)
            return ("book", book, steps)
        except Open:
            raise NoPaper() from None
        except Round:
            lot, steps, ring = turn_of(program, call, most=self._most)
            return ("round", lot, steps, ring)

    def why(self, question, number):
        """The grounds of the row of which the answer with that number comes."""
        program = self._text.program
        found = asked(program, self._pattern_of(question), self._most)
        row = found.row_of(number)
        if row is None:
            raise NoAnswer()
        return grounds_of(program, found.call, row, most=self._most)

    def said(self, question, number):
        """The same grounds as texts."""
        return [said_step(step, self._text.operators) for step in self.why(question, number)]

    def codes_of(self, title, mode):
        """The lines of a relation's clauses, each with its codes in a mode."""
        return self._image.codes_of(title, mode)

    def _work(self, word, action, *places):
        """Does what the log tells of, and is busy while it is at work."""
        self.busy = True
        self._log.append(word)
        try:
            return action(*places)
        finally:
            self.busy = False
            self._log.append("end")

    def _put(self, at, line):
        lines = self._text.all_lines
        _refuse_place(at, len(lines))
        return self._edit([*lines[:at], line, *lines[at:]])

    def _cut(self, at):
        lines = self._text.all_lines
        _refuse_place(at, len(lines) - 1)
        return self._edit(lines[:at] + lines[at + 1:])

    def _change(self, at, line):
        lines = self._text.all_lines
        _refuse_place(at, len(lines) - 1)
        return self._edit([*lines[:at], line, *lines[at + 1:]])

    def _edit(self, lines):
        """Has the text be of these lines, where they are let by."""
        text = Text(lines)
        self._done.append(self._text)
        self._undone = []
        return self._turn_to(text)

    def _undo(self):
        if not self._done:
            raise NoStep()
        self._undone.append(self._text)
        return self._turn_to(self._done.pop())

    def _again(self):
        if not self._undone:
            raise NoStep()
        self._done.append(self._text)
        return self._turn_to(self._undone.pop())

    def _turn_to(self, text):
        """Holds another text from now on; tells the news, and for which clauses codes were laid anew."""
        before = self._text
        self._text = text
        self._many += 1
        laid = self._image.renew(text.program)
        news = []
        for name, kept in self._kept.items():
            if kept.is_due(before, text):
                state = kept.state_now()
                kept.reckon(text, self._many)
                if kept.state_now() != state:
                    news.append((name, kept.state_now()))
        return news, laid

    def _keep(self, name, question):
        if name in self._kept:
            raise Taken()
        kept = Kept(self._text, self._pattern_of(question), self._most, self._many)
        self._kept[name] = kept
        return kept.state_now()

    def _drop(self, name):
        self._kept_by(name)
        self._kept.pop(name)

    def _kept_by(self, name):
        if name not in self._kept:
            raise NoName()
        return self._kept[name]

    def _pattern_of(self, question):
        return read_question(question, self._text.operators)


def _refuse_place(at, last):
    """Refuses a place that is not from nought to the last one."""
    if not 0 <= at <= last:
        raise NoPlace()
