"""How little and how much the numberings that fit a floor have at a cell."""

from tellsum.errors import NoFit, NoPlace
from tellsum.floors import (
    cell_sign, cells_of, fitted_floor, floor_shifts, is_cell, plain_numbers, shifted_numbers)


def fitting_shifts(floor, start):
    return floor_shifts(floor, start)[0]


def refuse_no_fit(floor):
    if fitted_floor(floor)[0] != "floor":
        raise NoFit("no numbers fit this floor")


def floor_range(floor, r, c):
    if not is_cell(floor[1], r, c):
        raise NoPlace("this is no cell of the floor")
    refuse_no_fit(floor)
    numbers = plain_numbers(floor)
    # Where the column has 0 the row's shift is as far above it as can be; where the row has 0, as far beneath.
    high = shifted_numbers(numbers, fitting_shifts(floor, len(numbers) + c))
    low = shifted_numbers(numbers, fitting_shifts(floor, r))
    return (low, high) if cell_sign(r, c) == 1 else (high, low)


def sure_cells(floor):
    refuse_no_fit(floor)
    rows = len(floor[1])
    shifts = [fitting_shifts(floor, lane) for lane in range(rows + len(floor[1][0]))]
    # How far the row can be above the column, and the column above the row: together the cell's whole span.
    return [(r, c) for r, c in cells_of(floor[1]) if shifts[rows + c][r] + shifts[r][rows + c] == 0]
