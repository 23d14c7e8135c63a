import itertools
import random
import unittest

from tellsum.errors import NoPlace
from tellsum.floorsettle import floor_apart, floor_settle, floor_settle_right
from tests.helpers import (
    all_numberings, asked_twice, block, cells_on, few_steps, floor_direct_sums, floor_size, floor_sizes, great_floors,
    in_lists, no_cells, numbers_by_chance, refused_alone, small_floors, whole_rows)

FAR = 10 ** 60 - 1
FARTHEST = 10 ** 5000
SMALL_SIZES = ((2, 2), (2, 3), (3, 2), (3, 3), (2, 4), (4, 2))


def apart_by(rows, columns):
    """What two unlike numberings with the same sums may differ by: all of -1, 0 and 1 with sums of 0, but 0 alone.

    Where any are alike at some cells two such are: so these are enough.
    """
    floor = (block(rows - 1, columns - 1), block(rows, columns, -1), block(rows, columns, 1))
    return [numbers for numbers in all_numberings(floor) if numbers != block(rows, columns)]


def settle(apart, cells):
    return not any(all(numbers[r][c] == 0 for r, c in cells) for numbers in apart)


def all_settling(rows, columns):
    """Every set of cells that settles, as rising tuples."""
    apart = apart_by(rows, columns)
    cells = cells_on(rows, columns)
    return [chosen for count in range(len(cells) + 1) for chosen in itertools.combinations(cells, count)
            if settle(apart, chosen)]


def cost_of(costs, cells):
    return sum(costs[r][c] for r, c in cells)


def tied_together(rows, columns, cells):
    """Whether one comes from row 0 to each row and each column by cells."""
    reached = {("row", 0)}
    for turn in range(rows + columns):
        for r, c in cells:
            if ("row", r) in reached or ("column", c) in reached:
                reached |= {("row", r), ("column", c)}
    return len(reached) == rows + columns


def cost_floors(seed, rows, columns):
    """Costs of 0, alike, unlike, few unlike ones, of sixty figures."""
    chance = random.Random(seed)
    unlike = chance.sample(range(100), rows * columns)
    return [
        block(rows, columns), block(rows, columns, 4), block(rows, columns, FAR),
        tuple(tuple(unlike[r * columns:(r + 1) * columns]) for r in range(rows)),
        numbers_by_chance(chance, rows, columns, 0, 2), numbers_by_chance(chance, rows, columns, 0, 1),
        numbers_by_chance(chance, rows, columns, 0, FAR), numbers_by_chance(chance, rows, columns, FAR - 3, FAR),
        tuple(tuple(r * columns + c for c in range(columns)) for r in range(rows)),
        tuple(tuple(99 - r * columns - c for c in range(columns)) for r in range(rows))]


class Settle(unittest.TestCase):
    def form(self, costs, told):
        rows, columns = len(costs), len(costs[0])
        whole_rows(self, told, 2)
        self.assertEqual(list(told), sorted(set(told)))
        self.assertTrue(set(told) <= set(cells_on(rows, columns)))
        self.assertEqual(len(told), rows + columns - 1)

    def test_by_all_sets_of_cells(self):
        for rows, columns in SMALL_SIZES:
            settling = all_settling(rows, columns)
            self.assertEqual(min(len(cells) for cells in settling), rows + columns - 1)
            for costs in cost_floors(151, rows, columns) + cost_floors(152, rows, columns):
                for handed in (costs, in_lists(costs), list(costs), tuple(in_lists(costs))):
                    told = asked_twice(self, floor_settle, handed)
                    self.form(costs, told)
                    self.assertIn(told, settling)
                    self.assertEqual(cost_of(costs, told), min(cost_of(costs, cells) for cells in settling))

    def test_each_size(self):
        # Where no cell can be exchanged for a cheaper one so that they settle still, no others are cheaper.
        for rows, columns in floor_sizes():
            for costs in cost_floors(153, rows, columns):
                told = few_steps(floor_settle, costs)
                self.form(costs, told)
                self.assertTrue(tied_together(rows, columns, told))
                for cell, other in itertools.product(told, cells_on(rows, columns)):
                    if costs[other[0]][other[1]] < costs[cell[0]][cell[1]]:
                        rest = [kept for kept in told if kept != cell]
                        self.assertFalse(tied_together(rows, columns, rest + [other]))

    def test_by_hand(self):
        self.assertEqual(floor_settle([[1, 2], [3, 9]]), ((0, 0), (0, 1), (1, 0)))
        self.assertEqual(floor_settle([[9, 2], [3, 1]]), ((0, 1), (1, 0), (1, 1)))
        # The three cheapest cells of the first two rows and columns, the dearest of that square not.
        self.assertEqual(floor_settle([[0, 1, 7], [2, 3, 8]]), ((0, 0), (0, 1), (0, 2), (1, 0)))
        self.assertEqual(floor_settle([[5, 5, 1], [5, 5, 1], [1, 1, 0]]), ((0, 2), (1, 2), (2, 0), (2, 1), (2, 2)))


class Apart(unittest.TestCase):
    def apart(self, floor, cells, told):
        """Two unlike numberings with the floor's sums that are alike at the cells."""
        self.assertIs(type(told), tuple)
        self.assertEqual(len(told), 2)
        rows, columns = floor_size(floor)
        for numbers in told:
            whole_rows(self, numbers, 2)
            self.assertEqual([len(row) for row in numbers], [columns] * rows)
            self.assertEqual(floor_direct_sums(numbers), floor[0])
        self.assertNotEqual(told[0], told[1])
        for r, c in cells:
            self.assertEqual(told[0][r][c], told[1][r][c])

    def judged(self, floor, cells, settles):
        for handed in (list(cells), tuple(cells)):
            told = asked_twice(self, floor_apart, floor, handed)
            if settles:
                self.assertIsNone(told)
            else:
                self.apart(floor, cells, told)

    def test_all_sets_of_cells(self):
        for rows, columns in SMALL_SIZES:
            floors = [floor for floor in small_floors(154, 4) if floor_size(floor) == (rows, columns)]
            settling = set(all_settling(rows, columns))
            cells = cells_on(rows, columns)
            for count in range(len(cells) + 1):
                for number, chosen in enumerate(itertools.combinations(cells, count)):
                    self.judged(floors[number % 4], chosen, chosen in settling)

    def test_each_size(self):
        chance = random.Random(155)
        seen = {True: 0, False: 0}
        for floor in small_floors(156, 2) + great_floors(157, True):
            rows, columns = floor_size(floor)
            self.judged(floor, [], False)
            self.judged(floor, cells_on(rows, columns), True)
            for count in (1, rows + columns - 2, rows + columns - 1, rows + columns + 1, 2 * (rows + columns)):
                for turn in range(4):
                    # In any order, any of them perhaps several times.
                    cells = [chance.choice(cells_on(rows, columns)) for i in range(count)]
                    wanted = tied_together(rows, columns, cells)
                    self.judged(floor, cells, wanted)
                    self.judged(floor, cells + cells[::-1], wanted)
                    seen[wanted] += 1
        self.assertGreater(min(seen.values()), 50, seen)

    def test_one_cell_less_than_settles(self):
        chance = random.Random(158)
        for floor in great_floors(159, False):
            rows, columns = floor_size(floor)
            cells = list(floor_settle(numbers_by_chance(chance, rows, columns, 0, 9)))
            chance.shuffle(cells)
            self.judged(floor, cells, True)
            for place in range(len(cells)):
                rest = cells[:place] + cells[place + 1:]
                self.judged(floor, rest, False)
                self.judged(floor, rest + rest, False)

    def test_all_but_a_row_or_a_column(self):
        for floor in great_floors(160, False):
            rows, columns = floor_size(floor)
            for row in range(rows):
                self.judged(floor, [(r, c) for r, c in cells_on(rows, columns) if r != row], False)
            for column in range(columns):
                self.judged(floor, [(r, c) for r, c in cells_on(rows, columns) if c != column], False)

    def test_bounds_are_left_aside(self):
        # Nothing within the bounds fits the first one, just one numbering the second: that settles nothing here.
        for floor in ((((5,),), block(2, 2), block(2, 2, 1)), (((4,),), block(2, 2), block(2, 2, 1))):
            self.judged(floor, [(0, 0), (1, 1)], False)
            self.judged(floor, [(0, 0), (1, 1), (0, 1)], True)

    def test_no_cells(self):
        for rows, columns in ((2, 2), (2, 6), (6, 2), (4, 3)):
            floor = (block(rows - 1, columns - 1), block(rows, columns), block(rows, columns))
            cells = cells_on(rows, columns)
            for wrong in no_cells(rows, columns):
                for handed in ([wrong], cells + [wrong], [wrong] + cells, cells[:1] + [wrong] + cells[:2], [wrong] * 3):
                    refused_alone(self, NoPlace, floor_apart, floor, handed)
                    refused_alone(self, NoPlace, floor_apart, floor, tuple(handed))

    def test_what_is_told_is_new(self):
        floor = (((4,),), block(2, 2), block(2, 2, 1))
        cells = [(0, 0)]
        told = floor_apart(floor, cells)
        cells.append((9, 9))
        self.assertEqual(floor_apart(floor, [(0, 0)]), told)


class Right(unittest.TestCase):
    def judged(self, costs, cells, wanted):
        for handed in (costs, in_lists(costs)):
            self.assertIs(asked_twice(self, floor_settle_right, handed, tuple(cells)), wanted)

    def test_what_floor_settle_tells(self):
        for rows, columns in floor_sizes():
            for costs in cost_floors(161, rows, columns):
                told = floor_settle(costs)
                self.assertIs(few_steps(floor_settle_right, costs, told), True)
                self.judged(costs, told, True)

    def test_all_sets_of_cells(self):
        others = 0
        for rows, columns in SMALL_SIZES:
            settling = set(all_settling(rows, columns))
            cells = cells_on(rows, columns)
            for costs in cost_floors(162, rows, columns):
                least = min(cost_of(costs, chosen) for chosen in settling)
                for count in range(len(cells) + 1):
                    for chosen in itertools.combinations(cells, count):
                        wanted = (count == rows + columns - 1 and chosen in settling
                                  and cost_of(costs, chosen) == least)
                        self.assertIs(floor_settle_right(costs, chosen), wanted)
                        others += wanted and chosen != floor_settle(costs)
        self.assertGreater(others, 50)

    def test_one_cell_otherwise_left_out_put_in(self):
        for rows, columns in floor_sizes():
            chance = random.Random(163)
            unlike = chance.sample(range(1, 1000), rows * columns)
            costs = tuple(tuple(unlike[r * columns:(r + 1) * columns]) for r in range(rows))
            # All costs are unlike: just one set of cells is the cheapest.
            told = floor_settle(costs)
            for place, cell in enumerate(told):
                self.judged(costs, told[:place] + told[place + 1:], False)
                self.judged(costs, told[:place] + (cell,) + told[place:], False)
                for other in cells_on(rows, columns):
                    if other not in told:
                        self.judged(costs, sorted(told[:place] + (other,) + told[place + 1:]), False)
                        self.judged(costs, sorted(told + (other,)), False)
            self.judged(costs, cells_on(rows, columns), False)

    def test_put_in_at_no_cost(self):
        for rows, columns in floor_sizes():
            costs = block(rows, columns)
            told = floor_settle(costs)
            for other in cells_on(rows, columns):
                if other not in told:
                    self.judged(costs, sorted(told + (other,)), False)
            self.judged(costs, told, True)

    def test_twice_and_out_of_order(self):
        for rows, columns in floor_sizes():
            costs = block(rows, columns)
            told = floor_settle(costs)
            self.judged(costs, told[::-1], False)
            self.judged(costs, told + told, False)
            for place in range(len(told) - 1):
                swapped = told[:place] + (told[place + 1], told[place]) + told[place + 2:]
                self.judged(costs, swapped, False)
                # As many as wanted, but one of them twice.
                self.judged(costs, told[:place] + (told[place + 1],) + told[place + 1:], False)

    def test_cells_that_do_not_settle(self):
        # As many as wanted, and all costs alike, but a loop among them.
        costs = block(3, 3, 5)
        self.judged(costs, ((0, 0), (0, 1), (1, 0), (1, 1), (2, 2)), False)
        self.judged(costs, ((0, 0), (0, 1), (1, 0), (1, 1), (1, 2)), False)
        self.judged(costs, ((0, 0), (0, 1), (1, 0), (1, 2), (2, 2)), True)
        # They cost less than any that settle.
        self.judged(((0, 0, 9), (0, 0, 9), (9, 9, 9)), ((0, 0), (0, 1), (1, 0), (1, 1), (2, 2)), False)

    def test_more_than_need_be(self):
        for more, wanted in ((0, True), (1, False), (FAR, False)):
            costs = ((1, 2), (3, 3 + more))
            self.judged(costs, ((0, 0), (0, 1), (1, 1)), wanted)
            self.judged(costs, ((0, 0), (0, 1), (1, 0)), True)
            self.judged(costs, ((0, 1), (1, 0), (1, 1)), False)

    def test_off_the_floor(self):
        for rows, columns in floor_sizes():
            costs = block(rows, columns)
            told = floor_settle(costs)
            self.judged(costs, (), False)
            for place, wrong in itertools.product(range(len(told)), no_cells(rows, columns)):
                self.judged(costs, told[:place] + (wrong,) + told[place + 1:], False)
                self.judged(costs, sorted(told[:place] + (wrong,) + told[place + 1:]), False)
                self.judged(costs, sorted(told + (wrong,)), False)
            for r, c in told:
                named = [(row - rows if row == r else row, column) for row, column in told]
                self.judged(costs, sorted(named), False)
                named = [(row, column - columns if column == c else column) for row, column in told]
                self.judged(costs, sorted(named), False)
            self.judged(costs, [(r - rows, c - columns) for r, c in told], False)
            self.judged(costs, [(FARTHEST + place, 0) for place in range(rows + columns - 1)], False)

    def test_very_many_cells(self):
        self.judged(block(2, 2), [(r, 0) for r in range(500)], False)
        self.judged(block(2, 2), [(0, 0)] * 500, False)

    def test_costs_below_0_are_none(self):
        for r, c in cells_on(2, 2):
            costs = tuple(tuple(-1 if (r, c) == (row, column) else 3 for column in range(2)) for row in range(2))
            for cells in itertools.combinations(cells_on(2, 2), 3):
                self.judged(costs, cells, False)


class TheTestsOwn(unittest.TestCase):
    def test_cells_settle_just_where_they_tie_all_rows_and_columns(self):
        for rows, columns in SMALL_SIZES:
            apart = apart_by(rows, columns)
            for count in range(rows * columns + 1):
                for chosen in itertools.combinations(cells_on(rows, columns), count):
                    self.assertEqual(settle(apart, chosen), tied_together(rows, columns, chosen))


if __name__ == "__main__":
    unittest.main()
