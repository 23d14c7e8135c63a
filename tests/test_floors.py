import itertools
import random
import unittest

from tellsum.floors import balance_of, fitted_floor
from tests.helpers import (
    added, all_numberings, asked_twice, block, cells_on, changed, direct_balance, few_steps, floor_by_chance,
    floor_direct_sums, floor_fits, floor_set_off, floor_size, floor_sizes, great_floors, in_lists, is_tour,
    loop_floor, most_balance, numbers_by_chance, numbers_within, small_floors, some_numbering, tightened,
    tour_by_chance, tour_so, whole_rows)

FAR = 10 ** 60 - 1
SIZES = floor_sizes()


class Balance(unittest.TestCase):
    def balanced(self, numbers, cells, wanted):
        for handed in (numbers, in_lists(numbers), list(numbers), tuple(in_lists(numbers))):
            told = asked_twice(self, balance_of, handed, list(cells))
            self.assertEqual(told, wanted)
            self.assertIs(type(told), int)
            self.assertEqual(asked_twice(self, balance_of, handed, tuple(cells)), wanted)

    def test_four_cells(self):
        numbers = ((1, 20), (300, 4000))
        self.balanced(numbers, [(0, 0), (1, 0), (1, 1), (0, 1)], 4321)
        self.balanced(numbers, [(1, 1), (0, 1), (0, 0), (1, 0)], 4321)
        self.balanced(numbers, [(1, 0), (0, 0), (0, 1), (1, 1)], -4321)
        self.balanced(numbers, [(0, 1), (1, 1), (1, 0), (0, 0)], -4321)

    def test_four_cells_further_apart(self):
        numbers = ((1, 20, 300), (4000, 50000, 600000), (7000000, 80000000, 900000000))
        self.balanced(numbers, [(0, 0), (2, 0), (2, 2), (0, 2)], 1 - 7000000 + 900000000 - 300)
        self.balanced(numbers, [(0, 0), (1, 0), (1, 2), (0, 2)], 1 + 4000 - 600000 - 300)
        self.balanced(numbers, [(0, 1), (2, 1), (2, 2), (0, 2)], -20 + 80000000 + 900000000 - 300)
        self.balanced(numbers, [(1, 0), (2, 0), (2, 1), (1, 1)], -4000 - 7000000 - 80000000 - 50000)

    def test_six_cells(self):
        numbers = ((1, 20, 300), (4000, 50000, 600000), (7000000, 80000000, 900000000))
        cells = [(0, 0), (1, 0), (1, 1), (2, 1), (2, 2), (0, 2)]
        self.balanced(numbers, cells, 1 + 4000 + 50000 + 80000000 + 900000000 - 300)

    def test_a_cell_several_times(self):
        numbers = ((1, 20), (300, 4000))
        cells = [(0, 0), (1, 0), (1, 1), (0, 1)]
        self.balanced(numbers, 3 * cells, 3 * 4321)
        # There and back: each cell has both signs.
        numbers = ((1, 20, 300), (4000, 50000, 600000))
        there = [(0, 0), (1, 0), (1, 1), (0, 1), (0, 2), (1, 2), (1, 1), (0, 1)]
        self.assertTrue(is_tour((((0, 0),), numbers, numbers), there))
        self.balanced(numbers, there, 1 + 4000 + 50000 + 20 + 300 + 600000 + 50000 + 20)
        back = [(0, 0), (1, 0), (1, 2), (0, 2), (0, 1), (1, 1), (1, 2), (0, 2)]
        self.balanced(numbers, back, 1 + 4000 - 600000 - 300 - 20 - 50000 - 600000 - 300)

    def test_tours_by_chance(self):
        chance = random.Random(91)
        for rows, columns in SIZES:
            for turn in range(12):
                cells = tour_by_chance(chance, rows, columns, chance.randint(2, 9))
                self.assertTrue(is_tour((None, block(rows, columns)), cells))
                for far in (9, FAR):
                    numbers = numbers_by_chance(chance, rows, columns, -far, far)
                    self.balanced(numbers, cells, direct_balance(numbers, cells))

    def test_begun_elsewhere(self):
        chance = random.Random(92)
        for rows, columns in SIZES:
            cells = tour_by_chance(chance, rows, columns, 5)
            numbers = numbers_by_chance(chance, rows, columns, -FAR, FAR)
            wanted = direct_balance(numbers, cells)
            for place in range(0, len(cells), 2):
                self.balanced(numbers, cells[place:] + cells[:place], wanted)
            self.balanced(numbers, cells[::-1], -wanted)

    def test_alike_by_all_numbers_with_the_same_sums(self):
        chance = random.Random(93)
        for rows, columns in SIZES:
            numbers = numbers_by_chance(chance, rows, columns, -99, 99)
            floor = (floor_direct_sums(numbers), numbers, numbers)
            for turn in range(6):
                cells = tour_by_chance(chance, rows, columns, chance.randint(2, 6))
                other = some_numbering(floor, chance)
                self.assertEqual(floor_direct_sums(other), floor[0])
                self.assertEqual(balance_of(other, cells), balance_of(numbers, cells))


class Fitted(unittest.TestCase):
    def form(self, floor, told):
        """What is told, looked at in its form and summed, compared anew."""
        self.assertIs(type(told), tuple)
        self.assertEqual(len(told), 2)
        if told[0] == "floor":
            whole_rows(self, told[1], 2)
            self.assertTrue(floor_fits(floor, told[1]))
        else:
            self.assertEqual(told[0], "tour")
            self.assertIs(type(told[1]), list)
            for cell in told[1]:
                whole_rows(self, cell, 1)
                self.assertEqual(len(cell), 2)
            self.assertTrue(tour_so(floor, told[1]), (floor, told))
        return told[0]

    def judged(self, floor):
        told = asked_twice(self, fitted_floor, floor)
        word = self.form(floor, told)
        self.assertEqual(word == "floor", len(all_numberings(floor)) > 0)
        return word

    def test_small_floors(self):
        seen = {}
        for floor in small_floors(94, 24):
            key = (floor_size(floor), self.judged(floor))
            seen[key] = seen.get(key, 0) + 1
        for size in SIZES:
            self.assertGreater(seen[size, "floor"], 2)
            self.assertGreater(seen[size, "tour"], 2)

    def test_all_numbers_within_bounds_gone_through(self):
        # Neither has any numbers within the bounds the sums, nor a balance as great as the told tour has.
        chance = random.Random(95)
        seen = {"floor": 0, "tour": 0}
        for rows, columns in ((2, 2), (2, 3), (3, 2)):
            for turn in range(60):
                floor = floor_set_off(chance, floor_by_chance(chance, rows, columns, 2, 1), 3)
                spans = [range(floor[1][r][c], floor[2][r][c] + 1) for r, c in cells_on(rows, columns)]
                told = fitted_floor(floor)
                seen[told[0]] += 1
                whole = direct_balance(some_numbering(floor, chance), told[1]) if told[0] == "tour" else None
                fitting = 0
                for chosen in itertools.product(*spans):
                    numbers = tuple(chosen[r * columns:(r + 1) * columns] for r in range(rows))
                    fitting += floor_direct_sums(numbers) == floor[0]
                    if told[0] == "tour":
                        self.assertLess(direct_balance(numbers, told[1]), whole)
                self.assertEqual(told[0] == "floor", fitting > 0)
        self.assertGreater(min(seen.values()), 20, seen)

    def test_every_tiny_floor(self):
        bounds = ((0, 0), (0, 1), (1, 1))
        for chosen in itertools.product(bounds, repeat=4):
            least = (tuple(b[0] for b in chosen[:2]), tuple(b[0] for b in chosen[2:]))
            greatest = (tuple(b[1] for b in chosen[:2]), tuple(b[1] for b in chosen[2:]))
            low, high = sum(b[0] for b in chosen), sum(b[1] for b in chosen)
            for total in range(-1, 6):
                told = fitted_floor((((total,),), least, greatest))
                self.assertEqual(told[0] == "floor", low <= total <= high)
                self.form((((total,),), least, greatest), told)

    def test_tight_bounds_and_one_off(self):
        chance = random.Random(96)
        for rows, columns in SIZES:
            for far in (9, 10 ** 59):
                numbers = numbers_by_chance(chance, rows, columns, -far, far)
                sums = floor_direct_sums(numbers)
                self.assertEqual(fitted_floor((sums, numbers, numbers)), ("floor", numbers))
                for r, c in cells_on(rows, columns):
                    for more in (-1, 1):
                        other = changed(numbers, r, c, more)
                        self.assertEqual(self.form((sums, other, other), fitted_floor((sums, other, other))), "tour")
                for r, c in cells_on(rows - 1, columns - 1):
                    for more in (-1, 1):
                        floor = (changed(sums, r, c, more), numbers, numbers)
                        self.assertEqual(self.form(floor, fitted_floor(floor)), "tour")

    def test_wide_bounds(self):
        chance = random.Random(97)
        for rows, columns in SIZES:
            sums = numbers_by_chance(chance, rows - 1, columns - 1, -9, 9)
            floor = (sums, block(rows, columns, -FAR), block(rows, columns, FAR))
            self.assertEqual(self.form(floor, few_steps(fitted_floor, floor)), "floor")

    def test_tours_of_each_length(self):
        # One bound nearer by 1 and no numbers fit: just the one tour shows it, of up to twelve cells.
        chance = random.Random(98)
        for rows, columns in SIZES:
            for half in range(2, min(rows, columns) + 1):
                floor, cells = loop_floor(chance, rows, columns, half)
                self.assertEqual(self.form(floor, fitted_floor(floor)), "floor")
                for place in range(len(cells)):
                    nearer = tightened(floor, cells, place)
                    told = asked_twice(self, fitted_floor, nearer)
                    self.assertEqual(self.form(nearer, told), "tour")
                    self.assertEqual(sorted(told[1]), sorted(cells))

    def test_sums_that_pass_a_tour_by_one(self):
        chance = random.Random(99)
        seen = {"floor": 0, "tour": 0}
        for rows, columns in SIZES:
            for half in range(2, min(rows, columns) + 1):
                floor, cells = loop_floor(chance, rows, columns, half)
                for r, c in cells_on(rows - 1, columns - 1):
                    for more in (-1, 1):
                        other = (changed(floor[0], r, c, more),) + floor[1:]
                        balance = direct_balance(some_numbering(other, chance), cells)
                        word = self.form(other, fitted_floor(other))
                        self.assertEqual(word == "tour", balance > most_balance(other, cells))
                        seen[word] += 1
        self.assertGreater(min(seen.values()), 100, seen)

    def test_great_floors(self):
        for floor in great_floors(100, False):
            self.assertEqual(self.form(floor, few_steps(fitted_floor, floor)), "floor")
        words = [self.form(floor, few_steps(fitted_floor, floor)) for seed in range(5)
                 for floor in great_floors(seed, True)]
        self.assertGreater(min(words.count("floor"), words.count("tour")), 20)

    def test_lists_are_new(self):
        floor = (((9,),), block(2, 2), block(2, 2, 1))
        told = fitted_floor(floor)
        kept = list(told[1])
        told[1].append((0, 0))
        told[1][0] = None
        self.assertEqual(fitted_floor(floor), ("tour", kept))
        self.form(floor, fitted_floor(floor))


class TheTestsOwn(unittest.TestCase):
    def test_all_numberings_are_those_of_all_products(self):
        chance = random.Random(101)
        found = 0
        for rows, columns in ((2, 2), (2, 3), (3, 2), (3, 3), (2, 4)):
            for turn in range(8):
                floor = floor_set_off(chance, floor_by_chance(chance, rows, columns, 2, 1), 2)
                spans = [range(floor[1][r][c], floor[2][r][c] + 1) for r, c in cells_on(rows, columns)]
                direct = []
                for chosen in itertools.product(*spans):
                    numbers = tuple(chosen[r * columns:(r + 1) * columns] for r in range(rows))
                    if floor_direct_sums(numbers) == floor[0]:
                        self.assertTrue(numbers_within(floor, numbers))
                        direct.append(numbers)
                self.assertEqual(all_numberings(floor), direct)
                found += len(direct)
        self.assertGreater(found, 50)

    def test_most_balance_is_that_of_some_numbers(self):
        chance = random.Random(102)
        for turn in range(30):
            floor = floor_by_chance(chance, 2, 3, 3, 1)
            cells = tour_by_chance(chance, 2, 3, 4)
            spans = [range(floor[1][r][c], floor[2][r][c] + 1) for r, c in cells_on(2, 3)]
            balances = [direct_balance((chosen[:3], chosen[3:]), cells) for chosen in itertools.product(*spans)]
            self.assertEqual(max(balances), most_balance(floor, cells))
            self.assertEqual(added(floor[1], floor[1], -1), block(2, 3))


if __name__ == "__main__":
    unittest.main()
