"""Places that settle a telling's sets: told besides their sums they leave one row at most; and the cheapest of them."""

from tellsum.base import all_long, base_of, fits_nothing
from tellsum.errors import Unlike
from tellsum.solve import common_divisor
from tellsum.tellings import rises


# A row that isn't all 0, without what divides all its numbers, so that they stay small.
def shortened(row):
    divisor = 0
    for number in row:
        divisor = common_divisor(divisor, number)
    return [number // divisor for number in row]


# The row with so much of the mover's that it has 0 at the place, and what it had where the mover has 0.
def cleared(row, mover, place):
    if row[place] == 0:
        return row
    return shortened([mover[place] * number - row[place] * less for number, less in zip(row, mover)])


# Moves by their places. Places are taken in the order of their costs, each that rows with 0 at all those taken ahead
# of it can differ at: so no row that is left has anything but 0 at a cheaper place that was passed over.
def cheapest_moves(telling, costs):
    rows = [shortened(row) for row in base_of(telling)[0]]
    moves = {}
    for place in sorted(range(telling[0]), key=lambda number: costs[number]):
        movers = [row for row in rows if row[place] != 0]
        if len(movers) > 0:
            mover = movers[0]
            rows = [cleared(row, mover, place) for row in rows if row != mover]
            for other in list(moves):
                moves[other] = cleared(moves[other], mover, place)
            moves[place] = mover
    return moves


def sets_settle(telling, costs):
    if len(costs) != telling[0]:
        raise Unlike("there are not as many costs as places")
    moves = cheapest_moves(telling, costs)
    places = tuple(sorted(moves))
    return (places, tuple([tuple(moves[place]) for place in places]))


# Whether a move has 0 at all other told places but not at its own, and goes over no cheaper place. It goes over none
# that there isn't: so a place that is none has no such move.
def move_right(costs, places, place, move):
    gone = [other for other, number in enumerate(move) if number != 0]
    if [other for other in gone if other in places] != [place]:
        return False
    return all([costs[other] >= costs[place] for other in gone])


def sets_settle_right(telling, costs, told):
    places = told[0]
    moves = told[1]
    # Moves make the places stand each for itself: as many as base rows settle, and then no others are cheaper.
    if min(costs) < 0 or len(places) != len(base_of(telling)[0]) or len(moves) != len(places):
        return False
    if not rises(places) or not all_long(moves, telling[0]):
        return False
    if not all([fits_nothing(telling, move) for move in moves]):
        return False
    return all([move_right(costs, places, place, move) for place, move in zip(places, moves)])
