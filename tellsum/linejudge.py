"""The judge of what is told of a line: it only adds and compares, and refuses nothing."""

from tellsum.lines import exchanged_row, high_asks, is_place, low_asks
from tellsum.sums import chosen_sum
from tellsum.tellings import line_holds


# Where a lesser row fits, one does that takes 1 from a rest and gives it to a later one: so no other is tried.
def least_right(line, row):
    k = line[0]
    if not line_holds(line, row):
        return False
    for giver in range(k):
        for taker in range(giver + 1, k):
            if line_holds(line, exchanged_row(row, k, giver, taker)):
                return False
    return True


def clash_right(line, a, b):
    k = line[0]
    if not is_place(line, a) or not is_place(line, b) or a % k != b % k:
        return False
    return low_asks(line)[a] > high_asks(line)[b]


def one_of_each_rest(line, places):
    k = line[0]
    if len(places) != k:
        return False
    return all([is_place(line, place) and place % k == j for j, place in enumerate(places)])


def low_right(line, places):
    return one_of_each_rest(line, places) and chosen_sum(low_asks(line), places) > line[1][0]


def high_right(line, places):
    return one_of_each_rest(line, places) and chosen_sum(high_asks(line), places) < line[1][0]


def line_right(line, told):
    word = told[0]
    if word == "row":
        return least_right(line, told[1])
    if word == "clash":
        return clash_right(line, told[1], told[2])
    if word == "low":
        return low_right(line, told[1])
    return word == "high" and high_right(line, told[1])
