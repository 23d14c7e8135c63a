import itertools
import random
import unittest

from tellsum.floorjudge import floor_right
from tellsum.floors import fitted_floor
from tests.helpers import (
    added, all_numberings, asked_twice, block, cells_on, changed, direct_balance, few_steps, floor_by_chance,
    floor_direct_sums, floor_fits, floor_set_off, floor_size, floor_sizes, great_floors, in_lists, loop_floor,
    most_balance, numbers_by_chance, small_floors, some_numbering, tightened, tour_by, tour_by_chance,
    tour_so)

FAR = 10 ** 60 - 1
FARTHEST = 10 ** 5000
SQUARE = [(0, 0), (1, 0), (1, 1), (0, 1)]
# No four numbers within these bounds add up to 9.
TOO_MUCH = (((9,),), block(2, 2), block(2, 2, 2))


class Judge(unittest.TestCase):
    def numbers(self, floor, numbers, wanted):
        for handed in (numbers, in_lists(numbers), list(numbers), tuple(in_lists(numbers))):
            self.assertIs(asked_twice(self, floor_right, floor, ("floor", handed)), wanted)

    def tour(self, floor, cells, wanted):
        self.assertIs(asked_twice(self, floor_right, floor, ("tour", list(cells))), wanted, len(cells))
        self.assertIs(asked_twice(self, floor_right, floor, ("tour", tuple(cells))), wanted)


class OfWhatIsTold(Judge):
    def test_small_floors(self):
        for floor in small_floors(111, 12):
            self.assertIs(floor_right(floor, fitted_floor(floor)), True)

    def test_great_floors(self):
        for floor in great_floors(112, False) + great_floors(113, True) + great_floors(114, True):
            told = fitted_floor(floor)
            self.assertIs(few_steps(floor_right, floor, told), True)
            if told[0] == "tour":
                self.numbers(floor, floor[1], False)


class OfNumbers(Judge):
    def test_all_that_fit(self):
        count = 0
        for floor in small_floors(115, 3):
            for numbers in all_numberings(floor)[:20]:
                self.numbers(floor, numbers, True)
                count += 1
        self.assertGreater(count, 100)

    def test_one_otherwise(self):
        for floor in small_floors(116, 2):
            for numbers in all_numberings(floor)[:1]:
                for r, c in cells_on(*floor_size(floor)):
                    for more in (-1, 1, FAR, -FAR, FARTHEST):
                        self.numbers(floor, changed(numbers, r, c, more), False)

    def test_all_sums_but_beyond_a_bound(self):
        chance = random.Random(117)
        for rows, columns in floor_sizes():
            floor = floor_by_chance(chance, rows, columns, 5, 2)
            for turn in range(10):
                numbers = some_numbering(floor, chance)
                self.numbers(floor, numbers, floor_fits(floor, numbers))
            numbers = numbers_by_chance(chance, rows, columns, -5, 5)
            sums = floor_direct_sums(numbers)
            for r, c in cells_on(rows, columns):
                self.numbers((sums, changed(numbers, r, c, 1), block(rows, columns, 9)), numbers, False)
                self.numbers((sums, block(rows, columns, -9), changed(numbers, r, c, -1)), numbers, False)
            self.numbers((sums, numbers, numbers), numbers, True)

    def test_numbers_near(self):
        chance = random.Random(118)
        for floor in small_floors(119, 2):
            rows, columns = floor_size(floor)
            for numbers in all_numberings(floor)[:2]:
                for turn in range(5):
                    other = added(numbers, numbers_by_chance(chance, rows, columns, -1, 1))
                    self.numbers(floor, other, floor_fits(floor, other))

    def test_rows_and_columns_more_or_fewer(self):
        for rows, columns in floor_sizes():
            numbers = block(rows, columns)
            floor = (block(rows - 1, columns - 1), numbers, numbers)
            self.numbers(floor, numbers, True)
            for other in ((), ((),), ((),) * rows, block(rows + 1, columns), block(rows - 1, columns),
                          block(rows, columns + 1), block(rows, columns - 1), block(rows + 1, columns + 1),
                          block(rows - 1, columns - 1), block(columns, rows + 1), block(40, 40), block(1, 1)):
                self.numbers(floor, other, False)
            for r in range(rows):
                for row in (numbers[r] + (0,), numbers[r][:-1], (), numbers[r][:1], numbers[r] * 5):
                    self.numbers(floor, numbers[:r] + (row,) + numbers[r + 1:], False)

    def test_rows_and_columns_the_other_way_about(self):
        numbers = ((1, 2, 3), (4, 5, 6))
        floor = (floor_direct_sums(numbers), numbers, numbers)
        self.numbers(floor, numbers, True)
        self.numbers(floor, tuple(zip(*numbers)), False)


class OfTours(Judge):
    def test_every_tour_of_four_cells(self):
        seen = {True: 0, False: 0}
        for floor in small_floors(120, 3):
            rows, columns = floor_size(floor)
            if rows * columns < 17:
                for first, second in itertools.permutations(range(rows), 2):
                    for left, right in itertools.permutations(range(columns), 2):
                        cells = tour_by((first, second), (left, right))
                        wanted = tour_so(floor, cells)
                        self.assertIs(floor_right(floor, ("tour", cells)), wanted)
                        seen[wanted] += 1
        self.assertGreater(min(seen.values()), 50, seen)

    def test_tours_by_chance(self):
        chance = random.Random(121)
        seen = {True: 0, False: 0}
        cancelled = 0
        for turn in range(4000):
            rows, columns = chance.choice(((2, 2), (2, 3), (3, 2), (3, 3), (2, 6), (4, 5)))
            floor = floor_set_off(chance, floor_by_chance(chance, rows, columns, 3, 1), 9)
            cells = tour_by_chance(chance, rows, columns, chance.randint(2, 8))
            wanted = tour_so(floor, cells)
            self.assertIs(floor_right(floor, ("tour", cells)), wanted)
            seen[wanted] += 1
            # Were a cell's signs not taken together, this tour would show nothing.
            each = sum((floor[2] if (r + c + place) % 2 == 0 else added(block(rows, columns), floor[1], -1))[r][c]
                       for place, (r, c) in enumerate(cells))
            cancelled += wanted and direct_balance(some_numbering(floor, chance), cells) <= each
        self.assertGreater(min(seen.values()), 200, seen)
        self.assertGreater(cancelled, 10)

    def test_signs_of_a_cell_taken_together(self):
        # Two squares, and the cell (0, 2) on the way from one to the other and on the way back.
        cells = tour_by((0, 1, 0, 2, 3), (0, 1, 2, 3, 2))
        self.assertEqual(cells.count((0, 2)), 2)
        wide = block(4, 4, 99)
        for r, c in set(cells) - {(0, 2)}:
            wide = changed(wide, r, c, -99)
        sums = changed(block(3, 3), 0, 0, 1)
        floor = (sums, added(block(4, 4), wide, -1), wide)
        self.tour(floor, cells, True)
        self.tour((block(3, 3),) + floor[1:], cells, False)
        self.tour((changed(sums, 0, 0, -2),) + floor[1:], cells, False)
        # With one of its signs alone the wide bounds of that cell count.
        self.tour(floor, tour_by((0, 1), (0, 2)), False)
        # Twice with the same sign they count twice.
        for total, wanted in ((98, False), (99, False), (100, True)):
            floor = (((total,),), block(2, 2), changed(block(2, 2), 0, 0, 99))
            self.tour(floor, SQUARE, wanted)
            self.tour(floor, SQUARE + SQUARE, wanted)

    def test_tours_of_each_length(self):
        chance = random.Random(122)
        for rows, columns in floor_sizes():
            for half in range(2, min(rows, columns) + 1):
                floor, cells = loop_floor(chance, rows, columns, half)
                # The balance is just as much as can be.
                self.assertEqual(direct_balance(some_numbering(floor, chance), cells), most_balance(floor, cells))
                self.tour(floor, cells, False)
                for place in range(len(cells)):
                    nearer = tightened(floor, cells, place)
                    self.tour(nearer, cells, True)
                    self.tour(nearer, cells[::-1], False)
                    self.tour(nearer, 7 * cells, True)
                    for begin in range(len(cells)):
                        # Begun at an odd place the row would stay first.
                        self.tour(nearer, cells[begin:] + cells[:begin], begin % 2 == 0)

    def test_two_tours_on_end(self):
        # One square shows it, by 7; another one besides takes 6 of that, or more.
        floor = (((15, 0),), block(2, 3), ((2, 2, 0), (2, 2, 0)))
        other = [(0, 0), (1, 0), (1, 2), (0, 2)]
        self.tour(floor, SQUARE, True)
        self.tour(floor, SQUARE + other, tour_so(floor, SQUARE + other))
        self.tour(floor, other + SQUARE, tour_so(floor, other + SQUARE))

    def test_just_as_much(self):
        for total in range(-3, 12):
            self.tour((((total,),), block(2, 2), block(2, 2, 2)), SQUARE, total > 8)
            self.tour((((total,),), block(2, 2), block(2, 2, 2)), [(1, 0), (0, 0), (0, 1), (1, 1)], total < 0)
        for more, wanted in ((0, False), (1, True), (-1, False)):
            self.tour((((4 * FAR + more,),), block(2, 2), block(2, 2, FAR)), SQUARE, wanted)

    def test_no_tour_where_numbers_fit(self):
        chance = random.Random(123)
        for floor in small_floors(124, 4):
            if all_numberings(floor):
                for turn in range(10):
                    self.tour(floor, tour_by_chance(chance, *floor_size(floor), chance.randint(2, 6)), False)


class OfWrongTours(Judge):
    def shown(self):
        """Floors that nothing fits, each with a tour that shows it."""
        chance = random.Random(125)
        yield TOO_MUCH, SQUARE
        for rows, columns, half in ((2, 3, 2), (3, 3, 3), (3, 4, 3), (4, 4, 4), (6, 6, 2), (6, 6, 6)):
            floor, cells = loop_floor(chance, rows, columns, half)
            yield tightened(floor, cells, 0), cells

    def test_one_cell_otherwise(self):
        for floor, cells in self.shown():
            self.tour(floor, cells, True)
            for place, other in itertools.product(range(len(cells)), cells_on(*floor_size(floor))):
                if other != cells[place]:
                    self.tour(floor, cells[:place] + [other] + cells[place + 1:], False)

    def test_a_cell_left_out_or_put_in(self):
        for floor, cells in self.shown():
            for place in range(len(cells)):
                self.tour(floor, cells[:place] + cells[place + 1:], False)
                for other in cells_on(*floor_size(floor)):
                    self.tour(floor, cells[:place] + [other] + cells[place:], False)

    def test_twice_side_by_side(self):
        for floor, cells in self.shown():
            for place, cell in enumerate(cells):
                self.tour(floor, cells[:place] + [cell] + cells[place:], False)
                self.tour(floor, cells[:place] + [cell, cell] + cells[place:], False)
                for later in range(place, len(cells)):
                    twice = cells[:place] + [cell] + cells[place:later] + [cells[later]] + cells[later:]
                    self.assertEqual(len(twice), len(cells) + 2)
                    self.tour(floor, twice, False)
            # The last one the first.
            self.tour(floor, cells + cells[:1], False)
            self.tour(floor, cells + cells[:1] + cells[:1], False)
            self.tour(floor, cells[-1:] + cells + cells[:1], False)

    def test_four_cells_that_stay(self):
        # The balance by the sums would be beyond the bounds, were a step from a cell to itself one.
        floor = (((9,),), block(2, 2), block(2, 2))
        cells = SQUARE[:1] + SQUARE[:1] + SQUARE[:1] + SQUARE
        for count in range(1, 8):
            self.tour(floor, cells[:count], False)
        self.tour(floor, [SQUARE[0]] * 4, False)
        self.tour(floor, [(0, 0), (1, 0), (1, 0), (0, 0)], False)
        self.tour(floor, [(0, 0), (1, 0), (1, 1), (1, 1)], False)
        self.tour(floor, [(0, 0), (0, 0), (0, 1), (0, 1)], False)
        self.tour(floor, SQUARE[:2] + SQUARE[1:2] + SQUARE[:1] + SQUARE, False)

    def test_steps_in_the_wrong_order(self):
        for floor, cells in self.shown():
            self.tour(floor, cells[1:] + cells[:1], False)
            self.tour(floor, cells[::-1][1:] + cells[::-1][:1], False)
            for first, second in itertools.combinations(range(len(cells)), 2):
                other = list(cells)
                other[first], other[second] = other[second], other[first]
                self.assertIs(floor_right(floor, ("tour", other)), tour_so(floor, other))
        for order in itertools.permutations(SQUARE):
            wanted = list(order) in (SQUARE, SQUARE[2:] + SQUARE[:2])
            self.tour(TOO_MUCH, order, wanted)

    def test_every_four_cells(self):
        floors = (TOO_MUCH, (((-1,),), block(2, 2), block(2, 2, 2)))
        for floor in floors:
            so = 0
            for cells in itertools.product(cells_on(2, 2), repeat=4):
                self.assertIs(floor_right(floor, ("tour", list(cells))), tour_so(floor, cells))
                so += tour_so(floor, cells)
            self.assertEqual(so, 2)

    def test_every_six_cells_of_a_square(self):
        for cells in itertools.product(cells_on(2, 2), repeat=6):
            self.assertIs(floor_right(TOO_MUCH, ("tour", list(cells))), False)

    def test_every_five_cells(self):
        # Steps by turns lead back to where they began, but the column would stay in the last one and in the first.
        low = (block(2, 1), block(3, 2, -60), block(3, 2, -50))
        self.tour(low, SQUARE, True)
        self.tour(low, [(0, 0), (1, 0), (1, 1), (2, 1), (2, 0)], False)
        for cells in itertools.product(cells_on(3, 2), repeat=5):
            self.assertIs(floor_right(low, ("tour", list(cells))), False)

    def test_too_few_and_odd(self):
        for floor, cells in self.shown():
            for count in range(len(cells)):
                self.tour(floor, cells[:count], False)
            for count in (1, 2, 3, 5):
                self.tour(floor, (cells + cells)[:count], False)
            self.tour(floor, [], False)
            self.tour(floor, [(0, 0), (1, 0)], False)
            self.tour(floor, [(0, 0), (0, 1)], False)
            self.tour(floor, cells + cells[:len(cells) - 1], False)

    def test_off_the_floor(self):
        for floor, cells in self.shown():
            rows, columns = floor_size(floor)
            for down, aside in ((-rows, 0), (0, -columns), (-rows, -columns), (rows, 0), (0, columns), (1, 0), (0, 1),
                                (-1, 0), (0, -1), (FAR, 0), (0, -FAR), (2 * FARTHEST, -2 * FARTHEST)):
                other = [(r + down, c + aside) for r, c in cells]
                self.assertIs(floor_right(floor, ("tour", other)), tour_so(floor, other))
                if abs(down) >= rows or abs(aside) >= columns:
                    self.tour(floor, other, False)
            # One row, one column of the tour named from behind the end.
            for r, c in cells:
                self.tour(floor, [(r - rows if r == row else row, column) for row, column in cells], False)
                self.tour(floor, [(row, c - columns if c == column else column) for row, column in cells], False)

    def test_far_more_cells_than_on_the_floor(self):
        for floor, cells in self.shown():
            many = (3000 // len(cells)) * cells
            self.tour(floor, many, True)
            self.tour(floor, many[:-1], False)
            self.tour(floor, many[:-2], False)
            self.tour(floor, many + cells[:2], False)
            self.tour(floor, many[:1501] + [many[1500]] + many[1502:], False)
        self.assertIs(few_steps(floor_right, TOO_MUCH, ("tour", 2000 * SQUARE)), True)


if __name__ == "__main__":
    unittest.main()
