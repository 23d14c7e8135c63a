import random
import unittest

from tellsum.errors import NoFit, NoPlace
from tellsum.floorranges import floor_range, sure_cells
from tellsum.floors import fitted_floor
from tests.helpers import (
    added, all_numberings, asked_twice, block, cells_on, changed, few_steps, floor_by_chance, floor_direct_sums,
    floor_fits, floor_size, floor_sizes, great_floors, loop_floor, no_cells, numbers_by_chance, refused_alone,
    small_floors, tightened, tour_so, whole_rows)

FAR = 10 ** 60 - 1
# Four numbers of 0 or 1 don't add up to 5.
NOTHING_FITS = (((5,),), block(2, 2), block(2, 2, 1))


def bounded(floor, r, c, low, high):
    """The floor with other bounds at one cell."""
    return (floor[0], changed(floor[1], r, c, low - floor[1][r][c]), changed(floor[2], r, c, high - floor[2][r][c]))


class Ranges(unittest.TestCase):
    def form(self, floor, told):
        self.assertIs(type(told), tuple)
        self.assertEqual(len(told), 2)
        for numbers in told:
            whole_rows(self, numbers, 2)
            self.assertTrue(floor_fits(floor, numbers))

    def none_beyond(self, floor, r, c, low, high):
        """No numbers that fit have less or more at the cell: by tours that are walked here."""
        for least, greatest in ((floor[1][r][c], low - 1), (high + 1, floor[2][r][c])):
            if least <= greatest:
                other = bounded(floor, r, c, least, greatest)
                told = fitted_floor(other)
                self.assertEqual(told[0], "tour")
                self.assertTrue(tour_so(other, told[1]))

    def test_small_floors(self):
        wide = 0
        for floor in small_floors(131, 5):
            fitting = all_numberings(floor)
            for r, c in cells_on(*floor_size(floor)):
                if not fitting:
                    refused_alone(self, NoFit, floor_range, floor, r, c)
                    continue
                told = asked_twice(self, floor_range, floor, r, c)
                self.form(floor, told)
                at_cell = [numbers[r][c] for numbers in fitting]
                self.assertEqual((told[0][r][c], told[1][r][c]), (min(at_cell), max(at_cell)))
                wide += min(at_cell) < max(at_cell)
        self.assertGreater(wide, 300)

    def test_wider_bounds_of_small_floors(self):
        chance = random.Random(132)
        for rows, columns in ((2, 2), (2, 3), (3, 2), (3, 3)):
            for turn in range(6):
                floor = floor_by_chance(chance, rows, columns, 5, 3)
                fitting = all_numberings(floor)
                for r, c in cells_on(rows, columns):
                    told = floor_range(floor, r, c)
                    self.form(floor, told)
                    at_cell = [numbers[r][c] for numbers in fitting]
                    self.assertEqual((told[0][r][c], told[1][r][c]), (min(at_cell), max(at_cell)))

    def test_by_hand(self):
        floor = (((3,),), block(2, 2), ((1, 5), (1, 1)))
        told = [floor_range(floor, r, c) for r, c in cells_on(2, 2)]
        self.assertEqual([low[r][c] for (low, high), (r, c) in zip(told, cells_on(2, 2))], [0, 0, 0, 0])
        self.assertEqual([high[r][c] for (low, high), (r, c) in zip(told, cells_on(2, 2))], [1, 3, 1, 1])
        floor = (((8,),), block(2, 2), ((1, 5), (1, 1)))
        for r, c in cells_on(2, 2):
            self.assertEqual(floor_range(floor, r, c), (floor[2], floor[2]))

    def test_tight_bounds(self):
        chance = random.Random(133)
        for rows, columns in floor_sizes():
            numbers = numbers_by_chance(chance, rows, columns, -FAR, FAR)
            floor = (floor_direct_sums(numbers), numbers, numbers)
            for r, c in cells_on(rows, columns):
                self.assertEqual(floor_range(floor, r, c), (numbers, numbers))

    def test_great_floors(self):
        chance = random.Random(134)
        for floor in great_floors(135, False) + great_floors(136, False):
            rows, columns = floor_size(floor)
            for r, c in chance.sample(cells_on(rows, columns), 4):
                told = few_steps(floor_range, floor, r, c)
                self.form(floor, told)
                self.none_beyond(floor, r, c, told[0][r][c], told[1][r][c])

    def test_bounds_as_wide_as_can_be(self):
        floor = (block(5, 5, 7), block(6, 6, -FAR), block(6, 6, FAR))
        for r, c in cells_on(6, 6):
            told = few_steps(floor_range, floor, r, c)
            self.form(floor, told)
            self.none_beyond(floor, r, c, told[0][r][c], told[1][r][c])

    def test_one_cell_alone_has_no_bounds(self):
        # All other cells have one number each: so has this one, wherever it is.
        chance = random.Random(137)
        for rows, columns in floor_sizes():
            numbers = numbers_by_chance(chance, rows, columns, -9, 9)
            for r, c in cells_on(rows, columns):
                floor = bounded((floor_direct_sums(numbers), numbers, numbers), r, c, -FAR, FAR)
                self.assertEqual(floor_range(floor, r, c), (numbers, numbers))

    def test_a_row_or_a_column_alone_is_free(self):
        # The cells of one row go up and down together, by turns, as far as the narrowest bound lets them.
        for rows, columns in floor_sizes():
            for free in range(rows):
                least = tuple((-5,) * columns if r == free else (0,) * columns for r in range(rows))
                greatest = tuple((8,) * columns if r == free else (0,) * columns for r in range(rows))
                floor = (block(rows - 1, columns - 1), least, greatest)
                for r, c in cells_on(rows, columns):
                    told = floor_range(floor, r, c)
                    self.form(floor, told)
                    self.assertEqual((told[0][r][c], told[1][r][c]), (-5, 5) if r == free else (0, 0))
            for free in range(columns):
                sides = [tuple(tuple(far if c == free else 0 for c in range(columns)) for r in range(rows))
                         for far in (-7, 3)]
                floor = (block(rows - 1, columns - 1), sides[0], sides[1])
                for r, c in cells_on(rows, columns):
                    told = floor_range(floor, r, c)
                    self.form(floor, told)
                    self.assertEqual((told[0][r][c], told[1][r][c]), (-3, 3) if c == free else (0, 0))

    def test_no_cells(self):
        for floor in small_floors(138, 1) + great_floors(139, True) + [NOTHING_FITS]:
            for r, c in no_cells(*floor_size(floor)):
                refused_alone(self, NoPlace, floor_range, floor, r, c)

    def test_no_cell_ahead_of_no_fit(self):
        self.assertEqual(all_numberings(NOTHING_FITS), [])
        for r, c in cells_on(2, 2):
            refused_alone(self, NoFit, floor_range, NOTHING_FITS, r, c)
        for r, c in no_cells(2, 2):
            refused_alone(self, NoPlace, floor_range, NOTHING_FITS, r, c)

    def test_nothing_fits_by_long_tours(self):
        chance = random.Random(140)
        for half in (2, 3, 4, 5, 6):
            floor, cells = loop_floor(chance, 6, 6, half)
            self.form(floor, floor_range(floor, 0, 0))
            for r, c in cells_on(6, 6):
                refused_alone(self, NoFit, floor_range, tightened(floor, cells, 1), r, c)
            refused_alone(self, NoFit, sure_cells, tightened(floor, cells, 1))

    def test_sides_are_not_alike(self):
        # Rows and columns of unlike counts: a cell beyond the columns may still be within the rows, and about.
        floor = (block(1, 5), block(2, 6), block(2, 6))
        self.assertEqual(floor_range(floor, 1, 5), (block(2, 6), block(2, 6)))
        refused_alone(self, NoPlace, floor_range, floor, 5, 1)
        floor = (block(5, 1), block(6, 2), block(6, 2))
        self.assertEqual(floor_range(floor, 5, 1), (block(6, 2), block(6, 2)))
        refused_alone(self, NoPlace, floor_range, floor, 1, 5)


class Sure(unittest.TestCase):
    def test_small_floors(self):
        seen = {"all": 0, "some": 0, "none": 0}
        for floor in small_floors(141, 20):
            fitting = all_numberings(floor)
            if not fitting:
                refused_alone(self, NoFit, sure_cells, floor)
                continue
            told = asked_twice(self, sure_cells, floor)
            self.assertIs(type(told), list)
            for cell in told:
                whole_rows(self, cell, 1)
            cells = cells_on(*floor_size(floor))
            self.assertEqual(told, [(r, c) for r, c in cells if len({numbers[r][c] for numbers in fitting}) == 1])
            seen["all" if told == cells else "some" if told else "none"] += 1
        self.assertGreater(min(seen.values()), 5, seen)

    def test_all(self):
        chance = random.Random(142)
        for rows, columns in floor_sizes():
            numbers = numbers_by_chance(chance, rows, columns, -FAR, FAR)
            self.assertEqual(sure_cells((floor_direct_sums(numbers), numbers, numbers)), cells_on(rows, columns))

    def test_none(self):
        for rows, columns in floor_sizes():
            floor = (block(rows - 1, columns - 1), block(rows, columns, -FAR), block(rows, columns, FAR))
            self.assertEqual(few_steps(sure_cells, floor), [])

    def test_all_but_a_row(self):
        chance = random.Random(143)
        for rows, columns in floor_sizes():
            numbers = numbers_by_chance(chance, rows, columns, -9, 9)
            for free in range(rows):
                wide = tuple((1,) * columns if r == free else (0,) * columns for r in range(rows))
                floor = (floor_direct_sums(numbers), added(numbers, wide, -1), added(numbers, wide))
                self.assertEqual(sure_cells(floor), [(r, c) for r, c in cells_on(rows, columns) if r != free])

    def test_great_floors(self):
        some = 0
        for floor in great_floors(144, False) + great_floors(145, False):
            told = few_steps(sure_cells, floor)
            wanted = []
            for r, c in cells_on(*floor_size(floor)):
                low, high = floor_range(floor, r, c)
                if low[r][c] == high[r][c]:
                    wanted.append((r, c))
            self.assertEqual(told, wanted)
            some += len(told) > 0
        self.assertGreater(some, 3)

    def test_along_a_tour(self):
        # Where bounds leave a tour one balance its numbers are sure, so all where its rows and columns meet.
        chance = random.Random(146)
        for half in (2, 3, 4, 5, 6):
            floor, cells = loop_floor(chance, 6, 6, half)
            rows = {r for r, c in cells}
            columns = {c for r, c in cells}
            self.assertEqual(sure_cells(floor), [(r, c) for r, c in cells_on(6, 6) if r in rows and c in columns])

    def test_lists_are_new(self):
        floor = (((4,),), block(2, 2), block(2, 2, 1))
        told = sure_cells(floor)
        self.assertEqual(told, [(0, 0), (0, 1), (1, 0), (1, 1)])
        told.append((7, 7))
        told[0] = None
        self.assertEqual(sure_cells(floor), [(0, 0), (0, 1), (1, 0), (1, 1)])

    def test_none_fits(self):
        refused_alone(self, NoFit, sure_cells, NOTHING_FITS)
        for floor in great_floors(147, True):
            if fitted_floor(floor)[0] == "tour":
                refused_alone(self, NoFit, sure_cells, floor)


if __name__ == "__main__":
    unittest.main()
