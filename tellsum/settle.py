"""Places that settle a line: told besides its sums they leave one row, and the cheapest of them."""

from tellsum.errors import NoPlace, Unlike
from tellsum.heads import exchanged_row, least_heads
from tellsum.lineranges import sure_rests
from tellsum.lines import fitting_spans, is_place, line_paper, row_of
from tellsum.sums import chosen_sum
from tellsum.tellings import line_holds, rises


def free_rests(line):
    return [j for j, sure in enumerate(sure_rests(line)) if not sure]


# Both rests are free: so there is room for 1 more in one and 1 less in the other.
def two_rows(line, first, second):
    spans = fitting_spans(line)
    spans[first] = (spans[first][0], spans[first][1] - 1)
    spans[second] = (spans[second][0] + 1, spans[second][1])
    row = row_of(line, least_heads(spans, line[1][0]))
    return (row, exchanged_row(row, line[0], second, first))


def settles(line, places):
    if not all([is_place(line, place) for place in places]):
        raise NoPlace("one of these is no place of the line")
    told = [place % line[0] for place in places]
    untold = [j for j in free_rests(line) if j not in told]
    if len(untold) < 2:
        return None
    return two_rows(line, untold[0], untold[1])


def rest_pairs(rests):
    pairs = []
    for i in range(len(rests)):
        for second in rests[i + 1:]:
            pairs.append((rests[i], second))
    return pairs


def cheapest_place(costs, k, j):
    of_rest = costs[j::k]
    return j + k * of_rest.index(min(of_rest))


def cheapest_places(costs, k, free):
    cheapest = [cheapest_place(costs, k, j) for j in free]
    # One free rest needs no place: the dearest is spared.
    cheapest = sorted(cheapest, key=lambda place: costs[place])[:-1]
    return tuple(sorted(cheapest))


def line_settle(line, costs):
    if len(costs) != len(line[2]):
        raise Unlike("there are not as many costs as places")
    free = free_rests(line)
    pairs = [(first, second) + two_rows(line, first, second) for first, second in rest_pairs(free)]
    return (cheapest_places(costs, line[0], free), pairs)


# Places of free rests, no two of one rest, of all free rests but one: just so they settle and none can be left out.
def just_settle(line, free, places):
    k = line[0]
    if not all([is_place(line, place) for place in places]) or not rises(places):
        return False
    rests = sorted([place % k for place in places])
    return rises(rests) and all([j in free for j in rests]) and len(rests) == max(len(free) - 1, 0)


def places_right(line, costs, free, places):
    if not just_settle(line, free, places) or min(costs) < 0:
        return False
    return chosen_sum(costs, places) == chosen_sum(costs, cheapest_places(costs, line[0], free))


def pair_right(line, pair):
    k = line[0]
    row = pair[2]
    other = pair[3]
    if not line_holds(line, row) or not line_holds(line, other):
        return False
    return all([(row[place] != other[place]) == (place % k in pair[:2]) for place in range(len(row))])


def pairs_right(line, free, pairs):
    if [(pair[0], pair[1]) for pair in pairs] != rest_pairs(free):
        return False
    return all([pair_right(line, pair) for pair in pairs])


def settle_right(line, costs, told):
    if line_paper(line) is not None:
        return False
    free = free_rests(line)
    return places_right(line, costs, free, told[0]) and pairs_right(line, free, told[1])
