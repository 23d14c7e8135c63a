"""Floors: the balance of a tour, and numbers that fit or a tour by which none do.

Numbers with the same sums differ by shifts alone: each row's shift, less each column's, is put on a cell, or taken off
it where its sign is -1. So bounds say how far a row's shift may be above a column's, a column's above a row's.
Rows and columns together are called lanes here, numbered on, the rows first. Shifts that are tied so are found for the
cuts of a line, too: there a lane is a cut.
"""

from tellsum.tellings import in_tuples


def is_cell(rows, r, c):
    return 0 <= r < len(rows) and 0 <= c < len(rows[0])


def cells_of(rows):
    cells = []
    for r in range(len(rows)):
        cells.extend([(r, c) for c in range(len(rows[0]))])
    return cells


def cell_sign(r, c):
    return 1 if (r + c) % 2 == 0 else -1


def balance_of(numbers, cells):
    balance = 0
    sign = 1
    for r, c in cells:
        balance += sign * cell_sign(r, c) * numbers[r][c]
        sign = -sign
    return balance


# Numbers that have the sums, bounds left aside: 0 all along the first row and the first column.
def plain_numbers(floor):
    numbers = [[0] * len(floor[1][0])]
    for sums in floor[0]:
        above = numbers[-1]
        row = [0]
        for c, total in enumerate(sums):
            row.append(total - above[c] - above[c + 1] - row[c])
        numbers.append(row)
    return in_tuples(numbers)


def shifted_row(row, r, shift, column_shifts):
    return tuple([number + cell_sign(r, c) * (shift - column_shifts[c]) for c, number in enumerate(row)])


def shifted_numbers(numbers, shifts):
    column_shifts = shifts[len(numbers):]
    return tuple([shifted_row(row, r, shifts[r], column_shifts) for r, row in enumerate(numbers)])


# Triples of a lane, another one, and how far the first one's shift may be above the other's for the bounds of a cell.
def cell_ties(floor, numbers, r, c):
    column = len(numbers) + c
    above = floor[2][r][c] - numbers[r][c]
    beneath = numbers[r][c] - floor[1][r][c]
    if cell_sign(r, c) == 1:
        return [(r, column, above), (column, r, beneath)]
    return [(r, column, beneath), (column, r, above)]


def floor_ties(floor):
    numbers = plain_numbers(floor)
    ties = []
    for r, c in cells_of(numbers):
        ties.extend(cell_ties(floor, numbers, r, c))
    return ties


# The greatest shifts that all ties leave where lane start has 0; by which other lane each one's came about; and a lane
# whose shift would have to fall for ever, None where there is none.
def greatest_shifts(ties, many, start):
    shifts = [None] * many
    shifts[start] = 0
    unders = [None] * many
    falling = None
    # Without such a lane no shift falls any more in the last of so many turns.
    for turn in range(many):
        falling = None
        for lane, under, above in ties:
            if shifts[under] is not None and (shifts[lane] is None or shifts[lane] > shifts[under] + above):
                shifts[lane] = shifts[under] + above
                unders[lane] = under
                falling = lane
    return (shifts, unders, falling)


# The lanes, each with the one that it is under behind it, that come round to the first again.
def falling_loop(unders, falling):
    lane = falling
    # As many steps as lanes lead into the loop.
    for step in range(len(unders)):
        lane = unders[lane]
    loop = [lane]
    while unders[loop[-1]] != lane:
        loop.append(unders[loop[-1]])
    return loop


def floor_shifts(floor, start):
    return greatest_shifts(floor_ties(floor), len(floor[1]) + len(floor[1][0]), start)


def tour_of(loop, rows):
    # Rows and columns go by turns, and a tour begins at a row.
    lanes = loop if loop[0] < rows else loop[1:] + loop[:1]
    unders = lanes[1:] + lanes[:1]
    return [(min(lane, under), max(lane, under) - rows) for lane, under in zip(lanes, unders)]


def fitted_floor(floor):
    found = floor_shifts(floor, 0)
    if found[2] is not None:
        return ("tour", tour_of(falling_loop(found[1], found[2]), len(floor[1])))
    return ("floor", shifted_numbers(plain_numbers(floor), found[0]))
