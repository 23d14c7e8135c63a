"""Sums of any sets of places: a row of whole numbers that fits, or weights by which none does.

A telling's sets stand as rows of 1 and 0, a column for each place. Rows taken off rows and columns off columns bring
them to a slant: a block that has no two numbers but 0 in one row, nor in one column. Of such a block one sees at once
which sums its rows can have, and what was taken off what leads back from there.
"""

from tellsum.tellings import sets_hold


def unit_row(many, place):
    return [1 if other == place else 0 for other in range(many)]


def unit_rows(many):
    return [unit_row(many, place) for place in range(many)]


def has_row(many, places):
    return [1 if place in places else 0 for place in range(many)]


def taken_off(row, other, times):
    return [number - times * less for number, less in zip(row, other)]


def column_taken_off(row, c, other, times):
    return row[:c] + [row[c] - times * row[other]] + row[c + 1:]


def products_sum(row, other):
    return sum([number * times for number, times in zip(row, other)])


# weights[r]: how often each set's row is in row r of the block. ways[c]: the row of numbers at the places that column c
# stands for. backs[c]: by which numbers a row at the places tells how often column c is in it. slants: by the row of
# each number that is left on the slant, its column.
class Slant:
    def __init__(self, telling):
        self.block = [has_row(telling[0], places) for places in telling[1]]
        self.weights = unit_rows(len(telling[1]))
        self.ways = unit_rows(telling[0])
        self.backs = unit_rows(telling[0])
        self.slants = {}
        corner = self.least_corner()
        while corner is not None:
            self.clear_cross(corner[0], corner[1])
            corner = self.least_corner()

    def open_rows(self):
        return [r for r in range(len(self.weights)) if r not in self.slants]

    def open_columns(self):
        done = [self.slants[r] for r in self.slants]
        return [c for c in range(len(self.ways)) if c not in done]

    # Where the number nearest to 0, but not 0, stands that is not on the slant yet; None where all others are 0.
    def least_corner(self):
        columns = self.open_columns()
        corners = []
        for r in self.open_rows():
            corners.extend([(abs(self.block[r][c]), r, c) for c in columns if self.block[r][c] != 0])
        if len(corners) == 0:
            return None
        return min(corners)[1:]

    # What can't be cleared is nearer to 0 than the corner: so it is the next one, and there is an end to it.
    def clear_cross(self, r, c):
        rows = [other for other in self.open_rows() if other != r]
        columns = [other for other in self.open_columns() if other != c]
        for other in rows:
            self.take_row(other, r, self.block[other][c] // self.block[r][c])
        for other in columns:
            self.take_column(other, c, self.block[r][other] // self.block[r][c])
        if not any([self.block[other][c] for other in rows]) and not any([self.block[r][other] for other in columns]):
            self.slants[r] = c

    def take_row(self, r, other, times):
        self.block[r] = taken_off(self.block[r], self.block[other], times)
        self.weights[r] = taken_off(self.weights[r], self.weights[other], times)

    def take_column(self, c, other, times):
        self.block = [column_taken_off(row, c, other, times) for row in self.block]
        self.ways[c] = taken_off(self.ways[c], self.ways[other], times)
        # So many of column c are as many of the other one less: what leads back has to put them on again.
        self.backs[other] = taken_off(self.backs[other], self.backs[c], -times)

    def slant_number(self, r):
        return self.block[r][self.slants[r]]


def common_divisor(number, other):
    first = abs(number)
    second = abs(other)
    while second != 0:
        left = first % second
        first = second
        second = left
    return first


def ratio_of(top, bottom):
    divisor = common_divisor(top, bottom)
    if bottom < 0:
        divisor = -divisor
    return (top // divisor, bottom // divisor)


def is_ratio(top, bottom):
    return bottom >= 1 and common_divisor(top, bottom) == 1


# The sum's top and bottom; some number may still divide both.
def ratios_sum(ratios):
    top = 0
    bottom = 1
    for more, by in ratios:
        top = top * by + more * bottom
        bottom = bottom * by
    return (top, bottom)


def is_whole(ratio):
    return ratio[0] % ratio[1] == 0


def least_no_divisor(number):
    by = 2
    while number % by == 0:
        by += 1
    return by


def none_by(weights, bottom):
    return ("none", tuple([ratio_of(weight, bottom) for weight in weights]))


def solved(telling):
    slant = Slant(telling)
    row = [0] * telling[0]
    for r, weights in enumerate(slant.weights):
        total = products_sum(weights, telling[2])
        if r in slant.slants:
            number = slant.slant_number(r)
            if total % number != 0:
                return none_by(weights, number)
            row = taken_off(row, slant.ways[slant.slants[r]], -(total // number))
        elif total != 0:
            # Nothing is left of the row's places, but something of its sum: any part of it serves that is not whole.
            return none_by(weights, least_no_divisor(total))
    return ("row", tuple(row))


# The ratios of those sets that have the place.
def ratios_at(sets, ratios, place):
    return [ratio for places, ratio in zip(sets, ratios) if place in places]


def times_sums(ratios, sums):
    return [(ratio[0] * total, ratio[1]) for ratio, total in zip(ratios, sums)]


def all_ratios(pairs):
    return all([is_ratio(top, bottom) for top, bottom in pairs])


def weights_right(telling, weights):
    sets = telling[1]
    if len(weights) != len(sets) or not all_ratios(weights):
        return False
    at_places = [ratios_sum(ratios_at(sets, weights, place)) for place in range(telling[0])]
    if not all([is_whole(ratio) for ratio in at_places]):
        return False
    return not is_whole(ratios_sum(times_sums(weights, telling[2])))


def solved_right(telling, told):
    if told[0] == "row":
        return sets_hold(telling, told[1])
    return told[0] == "none" and weights_right(telling, told[1])
