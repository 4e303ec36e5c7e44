"""Books: the answers of all calls of a lot, in the order of the plain search."""

from goalstead.bounds import MOST
from goalstead.errors import Round
from goalstead.lots import found_lot
from goalstead.terms import rows_in_order
from goalstead.told import Told, key_of


def book_of(house, call, *, most=MOST):
    """The book of a call, a told list."""
    return book_by_lot(house, found_lot(house, call, most))


def answers_of(house, call, *, most=MOST):
    """The answers of a call, in the order in which the plain search comes to them."""
    return answers_by_lot(house, found_lot(house, call, most), call)


def answers_by_lot(house, lot, call):
    """The answers of the call of which this is the lot."""
    for other, rows in book_by_lot(house, lot):
        if other == call:
            return rows
    return []


def book_by_lot(house, lot):
    """The book of the call of which this is the lot."""
    if lot.turning_calls():
        raise Round()
    calls = _by_floors(lot)
    answers = _tabled_answers(lot)
    for call in calls:
        if not lot.is_tabled(call):
            # All calls met that are not tabled have lower floors, so their answers are there by now.
            rows, _, _ = house.walk_by(call, answers, most=lot.most)
            answers.rows[key_of(call)] = rows
    return [(call, answers.rows_of(key_of(call))) for call in calls]


def _tabled_answers(lot):
    """The answers of all tabled calls of a lot."""
    answers = Told([])
    answers.points = lot.points
    for call in lot.all_calls():
        if lot.is_tabled(call):
            answers.rows[key_of(call)] = rows_in_order(lot.rows_of(key_of(call)))
    return answers


def _by_floors(lot):
    """The calls of a lot that is not round, by rising floors, those of one floor in order."""
    floors = _floors_of(lot)
    return sorted(lot.all_calls(), key=lambda call: floors[key_of(call)])


def _floors_of(lot):
    """The floor of each call, by its key."""
    floors = {}
    waiting = lot.all_calls()
    while waiting:
        late = []
        for call in waiting:
            met = [] if lot.is_tabled(call) else lot.loose_leads(call)
            below = [floors.get(key_of(other)) for other in met]
            if None in below:
                late.append(call)
            else:
                floors[key_of(call)] = max([floor + 1 for floor in below], default=0)
        waiting = late
    return floors
