"""What is kept while calls are asked for: which were met, and how many ways there are."""

from goalstead.errors import NoCall, Open
from goalstead.terms import calls_in_order
from goalstead.told import key_of


def has_call(house, call):
    """Whether a program or an image has a call's relation and mode, and the mode as many + as the call has ins."""
    title, mode, ins = call
    return mode in house.modes(title) and len(ins) == mode.count("+")


def refuse_unknown(house, call):
    """Refuses a call that a program or an image does not have."""
    if not has_call(house, call):
        raise NoCall()


class Asking:
    """A walk or a run by one told list, of one clause or of several."""

    def __init__(self, told, *, most=None):
        self.told = told
        self.most = most
        self.met = {}
        self.ways = 0

    def meet(self, call):
        """Takes in a call that is asked for; tells its key."""
        key = key_of(call)
        self.met[key] = call
        return key

    def refuse_many(self, more):
        """A bound that is passed is told at once, so that no more ways have to be found."""
        if self.most is not None and self.ways + more > self.most:
            raise Open()

    def calls_met(self):
        return calls_in_order(list(self.met.values()))
