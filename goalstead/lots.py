"""Lots: all calls and rows to which a call leads, and the verdict on a call."""

from goalstead.bounds import MOST
from goalstead.errors import Open
from goalstead.relations import reached_from
from goalstead.terms import calls_in_order, rows_in_order
from goalstead.told import Told, key_of


def lot_of(house, call, *, most=MOST):
    """The lot of a call, a told list."""
    return found_lot(house, call, most).pairs()


def leads_of(house, call, *, most=MOST):
    """For each call of the lot the calls that it leads to."""
    lot = found_lot(house, call, most)
    return [(other, list(lot.leads[key_of(other)])) for other in lot.all_calls()]


def verdict_of(house, call, *, most=MOST):
    """Whether a call is "open", "round" or a "book"."""
    try:
        lot = found_lot(house, call, most)
    except Open:
        return "open"
    return "round" if lot.turning_calls() else "book"


def found_lot(house, call, most):
    """The whole lot of a call."""
    lot = Lot(house, most)
    lot.take_call(call)
    while lot.waiting or lot.finish_layer():
        keys = lot.taken_waiting()
        for key in keys:
            lot.walk_again(key)
    return lot


class Lot(Told):
    """The calls and rows found so far, each call walked again when rows of what it meets come new.

    A not's call is final when all is found that can be of it; a way does not
    go on behind a not until then. So nothing is found that has to be let go.
    """

    def __init__(self, house, most):
        Told.__init__(self, [])
        self.house = house
        self.most = most
        self.calls = {}
        self.leads = {}
        self.ways = {}
        self.things = 0
        self.known_rows = {}
        self.followers = {}
        self.final = {}
        self.waiting = {}

    def final_rows_of(self, key):
        return self.rows[key] if key in self.final else None

    def take_call(self, call):
        """Has a call in the lot from now on; tells its key."""
        key = key_of(call)
        if key not in self.calls:
            self.calls[key] = call
            self.rows[key] = []
            self.leads[key] = []
            self.ways[key] = 0
            self.known_rows[key] = {}
            self.followers[key] = {}
            self.waiting[key] = True
            self.things += 1
        return key

    def taken_waiting(self):
        """The keys of the calls that were to be walked."""
        keys = list(self.waiting)
        self.waiting = {}
        return keys

    def walk_again(self, key):
        """Walks a call by all that is found, and takes in what is new."""
        answers, met, ways = self.house.walk_by(self.calls[key], self, most=self.most)
        self.things += ways - self.ways[key]
        self.ways[key] = ways
        self.leads[key] = met
        for call in met:
            self.followers[self.take_call(call)][key] = True
        for row in answers:
            self.take_row(key, row)
        if self.things > self.most:
            raise Open()

    def take_row(self, key, row):
        row_key = key_of(row)
        if row_key not in self.known_rows[key]:
            self.known_rows[key][row_key] = True
            self.rows[key].append(row)
            self.things += 1
            for follower in self.followers[key]:
                self.waiting[follower] = True

    def layer_of(self, key):
        title, _, _ = self.calls[key]
        return self.house.layer(title)

    def finish_layer(self):
        """Makes the calls of the least layer final that are not; tells whether there were any.

        Their nots are held against final calls alone, so once nothing waits
        nothing more comes of them.
        """
        keys = [key for key in self.calls if key not in self.final]
        least = min([self.layer_of(key) for key in keys], default=0)
        for key in keys:
            if self.layer_of(key) == least:
                self.final[key] = True
                for follower in self.followers[key]:
                    if self.layer_of(follower) > least:
                        self.waiting[follower] = True
        return len(keys) > 0

    def all_calls(self):
        return calls_in_order(list(self.calls.values()))

    def pairs(self):
        """The calls in order, each with its rows in order."""
        return [(call, rows_in_order(self.rows[key_of(call)])) for call in self.all_calls()]

    def is_tabled(self, call):
        title, _, _ = call
        return self.house.is_tabled(title)

    def loose_leads(self, call):
        """The calls of relations that are not tabled to which a call leads."""
        return [other for other in self.leads[key_of(call)] if not self.is_tabled(other)]

    def turning_calls(self):
        """The calls that are not tabled and lead to themselves, in one step or more."""
        named = {}
        for key, calls in self.leads.items():
            named[key] = [key_of(call) for call in calls]
        reached = {key: reached_from(key, named) for key in named}
        found = []
        for call in self.all_calls():
            key = key_of(call)
            if not self.is_tabled(call) and any([key in reached[other] for other in named[key]]):
                found.append(call)
        return found
