"""The judge of what is told of a floor: it only adds and compares, and refuses nothing."""

from tellsum.floors import balance_of, cell_sign, is_cell, plain_numbers
from tellsum.tellings import floor_holds


# In a step by turns the column stays, then the row; what doesn't stay is another one.
def is_step(place, cell, after):
    stays = 1 - place % 2
    return cell[stays] == after[stays] and cell[1 - stays] != after[1 - stays]


def is_tour(floor, cells):
    if len(cells) < 4 or len(cells) % 2 != 0:
        return False
    if not all([is_cell(floor[1], r, c) for r, c in cells]):
        return False
    afters = cells[1:] + cells[:1]
    return all([is_step(place, cell, afters[place]) for place, cell in enumerate(cells)])


# How often each cell counts in the balance of a tour, all its signs added.
def tour_counts(floor, cells):
    counts = [[0] * len(row) for row in floor[1]]
    sign = 1
    for r, c in cells:
        counts[r][c] += sign * cell_sign(r, c)
        sign = -sign
    return counts


def greatest_in_row(counts, least, greatest):
    return sum([max(count * low, count * high) for count, low, high in zip(counts, least, greatest)])


# The greatest balance of a tour by numbers within the bounds.
def greatest_balance(floor, cells):
    balance = 0
    for counts, least, greatest in zip(tour_counts(floor, cells), floor[1], floor[2]):
        balance += greatest_in_row(counts, least, greatest)
    return balance


def tour_right(floor, cells):
    return is_tour(floor, cells) and balance_of(plain_numbers(floor), cells) > greatest_balance(floor, cells)


def floor_right(floor, told):
    if told[0] == "floor":
        return floor_holds(floor, told[1])
    return told[0] == "tour" and tour_right(floor, told[1])
