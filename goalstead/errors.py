"""The error classes by which what can't be done is refused."""


class GoalError(ValueError):
    """What every refusal is; each of its kinds stands straight beneath it."""


class BadPiece(GoalError):
    """A line has a piece that is none; place is where its first sign stands."""

    def __init__(self, line, place):
        GoalError.__init__(self, f"line {line}: no piece begins or ends so at place {place}")
        self.line = line
        self.place = place


class BadSize(GoalError):
    """A line has too many pieces or brackets, or a reading that is too big or too deep."""

    def __init__(self, line):
        GoalError.__init__(self, f"line {line}: too many pieces or brackets, or too big or deep")
        self.line = line


class BadShape(GoalError):
    """A line has no reading, or none of the shape that is asked for."""

    def __init__(self, line):
        GoalError.__init__(self, f"line {line}: no reading of the shape that is asked for")
        self.line = line


class BadOperator(GoalError):
    """An operator may not be told beside those ahead of it."""

    def __init__(self, line):
        GoalError.__init__(self, f"line {line}: an operator that may not be told here")
        self.line = line


class Modeless(GoalError):
    """A goal of a line (0: its head) is of a relation without modes."""

    def __init__(self, line, goal):
        GoalError.__init__(self, f"line {line}, goal {goal}: a relation without modes")
        self.line = line
        self.goal = goal


class Ill(GoalError):
    """A goal of a line can't be held in a mode of the line's head."""

    def __init__(self, line, mode, goal):
        GoalError.__init__(self, f"line {line}, mode {mode}, goal {goal}: something is not known")
        self.line = line
        self.mode = mode
        self.goal = goal


class Mixed(GoalError):
    """A line ties a tabled relation and one that is not into one ring."""

    def __init__(self, line):
        GoalError.__init__(self, f"line {line}: a ring of tabled and other relations")
        self.line = line


class Notring(GoalError):
    """A line has a not that lies on a ring."""

    def __init__(self, line):
        GoalError.__init__(self, f"line {line}: a not on a ring")
        self.line = line


class NoCall(GoalError):
    """The program has no such call or clause."""


class Open(GoalError):
    """More things, or greater ones, would have to be looked at than may be."""


class Round(GoalError):
    """The plain search never ends."""


class NoTurn(GoalError):
    """There is no turn, since the plain search ends."""


class NoRow(GoalError):
    """The row is none of the call's in its lot."""


class NoMode(GoalError):
    """A question's relation has no mode in which it can be asked."""


class NoPaper(GoalError):
    """There is no paper, since the question is open."""


class NoAnswer(GoalError):
    """There is no answer of that number."""


class NoPlace(GoalError):
    """The text has no such place."""


class NoRoom(GoalError):
    """The text would have too many lines."""


class NoStep(GoalError):
    """There is no deed to undo or to do again."""


class Taken(GoalError):
    """A question is kept by that name already."""


class NoName(GoalError):
    """No question is kept by that name."""
