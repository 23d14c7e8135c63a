"""The least greatest change: a row within a line's bounds whose furthest sum is as near as can be, and a way for it.

A walk is a step as a triple: the cut that it leads from, the cut that it leads to, and what it asks.
"""

from tellsum.floors import falling_loop, greatest_shifts
from tellsum.leastchange import row_by_cuts
from tellsum.sums import line_sums
from tellsum.tellings import row_within


def numbers_many(line, kind):
    return len(line[1]) if kind == "sum" else len(line[2])


def is_step(line, step):
    kind = step[0]
    return kind in ("sum", "place") and 0 <= step[1] < numbers_many(line, kind)


def step_walk(line, step):
    kind = step[0]
    i = step[1]
    over = i + (line[0] if kind == "sum" else 1)
    if step[2]:
        return (i, over, line[1][i] if kind == "sum" else line[2][i])
    return (over, i, -line[1][i] if kind == "sum" else -line[3][i])


# Those up rise, those down fall: so in one turn through them one comes from each cut to each other one by places.
def steps_of(line, kind):
    many = numbers_many(line, kind)
    return [(kind, i, True) for i in range(many)] + [(kind, i, False) for i in range(many - 1, -1, -1)]


def walks_of(line, kind):
    return [step_walk(line, step) for step in steps_of(line, kind)]


def more_of(asks, other):
    return other if asks is None else max(asks, other)


# The most that ways to each cut ask: from ways with some count of sums on to those with one sum more.
def one_sum_on(sum_walks, place_walks, asks):
    grown = [None] * len(asks)
    for start, end, ask in sum_walks:
        grown[end] = more_of(grown[end], asks[start] + ask)
    # Sum 0 leads to cut 0, so no cut is left without a way when the places lead on from there.
    for start, end, ask in place_walks:
        grown[end] = more_of(grown[end], grown[start] + ask)
    return grown


# What has come to the longest ways, over any shorter ones to the same cut, for each sum, rounded up.
def least_mean(layers, cut):
    longest = len(layers) - 1
    return min([-((layers[j][cut] - layers[-1][cut]) // (longest - j)) for j in range(longest)])


# A way with as many sums as there are cuts has come round to some cut again. So the most that closed ways ask for each
# of their sums is the greatest least mean of all cuts, and that is how far the sums have to give way. It isn't below 0,
# as a sum up and down again asks 0.
def least_far(line):
    sum_walks = walks_of(line, "sum")
    place_walks = walks_of(line, "place")
    cuts = len(line[2]) + 1
    layers = [[0] * cuts]
    for turn in range(cuts):
        layers.append(one_sum_on(sum_walks, place_walks, layers[-1]))
    return max([least_mean(layers, cut) for cut in range(cuts)])


# Ties of cuts, as in leastchange, where no sum is further than far from the told one.
def far_ties(line, far):
    ties = [(start, end, -ask) for start, end, ask in walks_of(line, "place")]
    return ties + [(start, end, far - ask) for start, end, ask in walks_of(line, "sum")]


# No row is so near: the ties fall round a loop of cuts, and the steps along it ask too much.
def way_beyond(line, far):
    found = greatest_shifts(far_ties(line, far), len(line[2]) + 1, 0)
    cuts = falling_loop(found[1], found[2])
    steps = {}
    for step in steps_of(line, "place") + steps_of(line, "sum"):
        steps[step_walk(line, step)[:2]] = step
    return [steps[pair] for pair in zip(cuts, cuts[1:] + cuts[:1])]


def line_off(line):
    far = least_far(line)
    row = row_by_cuts(far_ties(line, far), len(line[2]))
    return (far, row, None if far == 0 else way_beyond(line, far - 1))


def row_near(line, far, row):
    if not row_within(row, line[2], line[3]):
        return False
    return all([abs(total - told) <= far for total, told in zip(line_sums(row, line[0]), line[1])])


def is_closed(walks):
    return [end for start, end, ask in walks] == [start for start, end, ask in walks[1:] + walks[:1]]


def way_right(line, far, way):
    if len(way) == 0 or not all([is_step(line, step) for step in way]):
        return False
    walks = [step_walk(line, step) for step in way]
    asked = sum([ask for start, end, ask in walks])
    many = len([step for step in way if step[0] == "sum"])
    return is_closed(walks) and asked > (far - 1) * many


def off_right(line, told):
    far = told[0]
    way = told[2]
    if not row_near(line, far, told[1]):
        return False
    if far == 0 or way is None:
        return far == 0 and way is None
    return way_right(line, far, way)
