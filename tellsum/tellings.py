"""Lines, rings, floors and tellings of sets: made of their parts, and asked whether numbers fit them."""

from tellsum.errors import BadTelling
from tellsum.sums import floor_sums, line_sums, ring_sums, set_sums

MOST_PLACES = 24


def row_within(row, least, greatest):
    if len(row) != len(least):
        return False
    return all([low <= number <= high for low, number, high in zip(least, row, greatest)])


def bounds_right(least, greatest, many):
    return len(least) == many and len(greatest) == many and row_within(least, least, greatest)


def k_right(k):
    return 2 <= k <= 5


def line_parts_right(k, sums, least, greatest):
    if not k_right(k) or len(sums) == 0:
        return False
    many = len(sums) + k - 1
    return many <= MOST_PLACES and bounds_right(least, greatest, many)


def ring_parts_right(k, sums, least, greatest):
    many = len(sums)
    return k_right(k) and k <= many <= MOST_PLACES and bounds_right(least, greatest, many)


def made_line(k, sums, least, greatest):
    if not line_parts_right(k, sums, least, greatest):
        raise BadTelling("these parts make no line")
    return (k, tuple(sums), tuple(least), tuple(greatest))


def made_ring(k, sums, least, greatest):
    if not ring_parts_right(k, sums, least, greatest):
        raise BadTelling("these parts make no ring")
    return (k, tuple(sums), tuple(least), tuple(greatest))


def lengths_of(rows):
    return [len(row) for row in rows]


def rows_within(rows, least, greatest):
    if len(rows) != len(least):
        return False
    return all([row_within(row, low, high) for low, row, high in zip(least, rows, greatest)])


def floor_parts_right(sums, least, greatest):
    rows = len(least)
    if not 2 <= rows <= 6:
        return False
    columns = len(least[0])
    if not 2 <= columns <= 6:
        return False
    if lengths_of(least) != [columns] * rows or lengths_of(greatest) != [columns] * rows:
        return False
    return lengths_of(sums) == [columns - 1] * (rows - 1) and rows_within(least, least, greatest)


def in_tuples(rows):
    return tuple([tuple(row) for row in rows])


def made_floor(sums, least, greatest):
    if not floor_parts_right(sums, least, greatest):
        raise BadTelling("these parts make no floor")
    return (in_tuples(sums), in_tuples(least), in_tuples(greatest))


def rises(numbers):
    return all([numbers[i] < numbers[i + 1] for i in range(len(numbers) - 1)])


def set_right(places, many):
    return len(places) > 0 and rises(places) and places[0] >= 0 and places[-1] < many


def sets_parts_right(many, sets, sums):
    if not 1 <= many <= 7 or not 1 <= len(sets) <= 7 or len(sums) != len(sets):
        return False
    return all([set_right(places, many) for places in sets])


def made_sets(many, sets, sums):
    if not sets_parts_right(many, sets, sums):
        raise BadTelling("these parts make no telling of sets")
    return (many, in_tuples(sets), tuple(sums))


def line_holds(line, row):
    return row_within(row, line[2], line[3]) and line_sums(row, line[0]) == line[1]


def ring_holds(ring, row):
    return row_within(row, ring[2], ring[3]) and ring_sums(row, ring[0]) == ring[1]


def floor_holds(floor, numbers):
    return rows_within(numbers, floor[1], floor[2]) and floor_sums(numbers) == floor[0]


def sets_hold(telling, row):
    return len(row) == telling[0] and set_sums(row, telling[1]) == telling[2]
