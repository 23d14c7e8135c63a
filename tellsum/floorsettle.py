"""Cells that settle a floor: told besides its sums they leave one numbering, bounds left aside; and the cheapest ones.

A cell ties its row and its column: lanes that cells tie, in however many steps, are of one group.
"""

from tellsum.errors import NoPlace
from tellsum.floors import cells_of, is_cell, plain_numbers, shifted_numbers
from tellsum.tellings import rises


def joined(groups, first, second):
    return [groups[first] if group == groups[second] else group for group in groups]


# The group of each lane, and those of the cells that tie two groups as they come, the others left out.
def tied(rows, cells):
    groups = list(range(len(rows) + len(rows[0])))
    needed = []
    for r, c in cells:
        column = len(rows) + c
        if groups[r] != groups[column]:
            groups = joined(groups, r, column)
            needed.append((r, c))
    return (groups, needed)


def floor_settle(costs):
    by_cost = sorted(cells_of(costs), key=lambda cell: costs[cell[0]][cell[1]])
    return tuple(sorted(tied(costs, by_cost)[1]))


def all_cells(rows, cells):
    return all([is_cell(rows, r, c) for r, c in cells])


def floor_apart(floor, cells):
    if not all_cells(floor[1], cells):
        raise NoPlace("one of these is no cell of the floor")
    numbers = plain_numbers(floor)
    groups = tied(numbers, cells)[0]
    if groups == groups[:1] * len(groups):
        return None
    # Within a group all lanes shift alike: so nothing is changed at its cells.
    shifts = [1 if group == groups[0] else 0 for group in groups]
    return (numbers, shifted_numbers(numbers, shifts))


def cost_of(costs, cells):
    return sum([costs[r][c] for r, c in cells])


# So few cells settle just where each of them ties two groups.
def just_settle(rows, cells):
    if len(cells) != len(rows) + len(rows[0]) - 1 or not all_cells(rows, cells) or not rises(cells):
        return False
    return len(tied(rows, cells)[1]) == len(cells)


def floor_settle_right(costs, cells):
    if min([min(row) for row in costs]) < 0 or not just_settle(costs, cells):
        return False
    return cost_of(costs, cells) == cost_of(costs, floor_settle(costs))
