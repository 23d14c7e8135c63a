import itertools
import math
import random
import unittest

from tellsum.solve import solved, solved_right
from tests.helpers import asked_twice, few_steps, whole_rows, with_number
from tests.sethelpers import (
    FAR, FARTHEST, SHAPES, direct_set_sums, drawn_tellings, row_by_chance, sets_by_chance, sets_fit, shapes, weights_so)

# Some rows have these sums, but of halves or of thirds alone.
HALVES = (3, ((0, 1), (1, 2), (0, 2)), (1, 1, 1))
THIRDS = (4, SHAPES["all but one"][1], (1, 1, 1, 1))
UNLIKE = (3, ((0, 2), (0, 2)), (4, 5))


def set_off(chance, telling, far=1):
    """The telling with one sum otherwise."""
    number = chance.randrange(len(telling[2]))
    more = chance.choice((-1, 1)) * chance.randint(1, far)
    return telling[:2] + (with_number(telling[2], number, telling[2][number] + more),)


def off_tellings(seed, each, far):
    chance = random.Random(seed)
    return [set_off(chance, telling) for telling in drawn_tellings(seed, each, far)]


def none_tellings(seed, each, far):
    return [telling for telling in off_tellings(seed, each, far) if solved(telling)[0] == "none"]


class Solved(unittest.TestCase):
    def told(self, telling):
        """What is told, looked at: a row that fits, or weights that are so; with one of both there is no other."""
        told = asked_twice(self, solved, telling)
        self.assertIs(type(told), tuple)
        self.assertEqual(len(told), 2)
        if told[0] == "row":
            whole_rows(self, told[1], 1)
            self.assertTrue(sets_fit(telling, told[1]), telling)
        else:
            self.assertEqual(told[0], "none")
            whole_rows(self, told[1], 2)
            self.assertTrue(weights_so(telling, told[1]), (telling, told))
        return told[0]

    def test_sums_of_a_drawn_row(self):
        for far in (0, 1, 9, 10 ** 58):
            for telling in drawn_tellings(201, 4, far):
                self.assertEqual(self.told(telling), "row")

    def test_one_sum_otherwise(self):
        seen = {"row": 0, "none": 0}
        for far in (1, 9, 10 ** 58):
            for telling in off_tellings(202, 4, far):
                seen[self.told(telling)] += 1
        self.assertGreater(min(seen.values()), 100, seen)

    def test_sums_by_chance(self):
        chance = random.Random(203)
        seen = {"row": 0, "none": 0}
        for far in (1, 5, FAR):
            for many, sets in shapes(203, 3):
                seen[self.told((many, sets, row_by_chance(chance, len(sets), far)))] += 1
        self.assertGreater(min(seen.values()), 100, seen)

    def test_small_rows_gone_through(self):
        chance = random.Random(204)
        for turn in range(150):
            many = chance.randint(1, 4)
            telling = (many, sets_by_chance(chance, many, chance.randint(1, 5)), None)
            row = row_by_chance(chance, many, 2)
            sums = list(direct_set_sums(row, telling[1]))
            if turn % 2:
                sums[chance.randrange(len(sums))] += chance.choice((-1, 1))
            telling = telling[:2] + (tuple(sums),)
            found = [row for row in itertools.product(range(-3, 4), repeat=many) if sets_fit(telling, row)]
            if found:
                self.assertEqual(self.told(telling), "row")
            if self.told(telling) == "none":
                self.assertEqual(found, [])

    def test_all_sums_of_small_tellings(self):
        # Of these sets all rows of small sums are made of small numbers: so none is missed.
        for many, sets, far in ((3, HALVES[1], 2), (2, ((0, 1), (0,), (1,)), 3), (4, THIRDS[1], 1)):
            for sums in itertools.product(range(-far, far + 1), repeat=len(sets)):
                found = any(sets_fit((many, sets, sums), row) for row in itertools.product(range(-4, 5), repeat=many))
                self.assertEqual(self.told((many, sets, sums)), "row" if found else "none")

    def test_halves_and_thirds(self):
        for parts, telling in ((2, HALVES), (3, THIRDS), (4, (5, SHAPES["all but one of five"][1], (1,) * 5)),
                               (6, (7, SHAPES["all but one of seven"][1], (1,) * 7)),
                               (3, (7, SHAPES["seven lines of three"][1], (1,) * 7)),
                               (2, (7, SHAPES["a ring of 7 by 2"][1], (1,) * 7))):
            for times in range(-2 * parts, 2 * parts + 1):
                for more in (0, parts * 10 ** 58, -parts * 10 ** 58):
                    sums = tuple(total * times + more for total in telling[2])
                    wanted = "row" if (times + more) % parts == 0 else "none"
                    self.assertEqual(self.told(telling[:2] + (sums,)), wanted)

    def test_rows_of_parts(self):
        # Sums of a row of halves, of thirds that are whole themselves: some have whole rows besides, some have none.
        seen = {"row": 0, "none": 0}
        for many, sets in shapes(205, 1):
            for parts in (2, 3):
                for row in itertools.islice(itertools.product(range(parts), repeat=many), 1, 400):
                    sums = direct_set_sums(row, sets)
                    if all(total % parts == 0 for total in sums):
                        seen[self.told((many, sets, tuple(total // parts for total in sums)))] += 1
        self.assertGreater(min(seen.values()), 5, seen)

    def test_the_same_set_several_times(self):
        for count in range(2, 8):
            for places in ((0,), (1, 2), (0, 1, 2)):
                for total in (0, 3, -7, FAR, -FAR):
                    telling = (3, (places,) * count, (total,) * count)
                    self.assertEqual(self.told(telling), "row")
                    for number in range(count):
                        for other in (total + 1, total - 1, -total - 12, total + 720720):
                            sums = with_number(telling[2], number, other)
                            self.assertEqual(self.told(telling[:2] + (sums,)), "none")

    def test_sums_that_differ_by_what_much_divides(self):
        # Whatever they differ by, some part of it is not whole.
        for apart in (1, 2, 6, 12, 60, 2520, math.factorial(20), math.factorial(40), 10 ** 59, FAR):
            self.assertEqual(self.told((2, ((0, 1), (0, 1)), (0, apart))), "none")
            self.assertEqual(self.told((2, ((0, 1), (0,), (1,)), (-apart, 5, -5))), "none")

    def test_sets_in_sets(self):
        many, sets = SHAPES["one in another, growing"]
        for sums in ((0,) * 7, (1, 0, 1, 0, 1, 0, 1), (FAR, -FAR) * 3 + (FAR,)):
            self.assertEqual(self.told((many, sets, sums)), "row")

    def test_lines_and_rings_told_as_sets(self):
        chance = random.Random(206)
        for name, (many, sets) in SHAPES.items():
            for turn in range(8):
                sums = row_by_chance(chance, len(sets), chance.choice((3, FAR)))
                told = self.told((many, sets, sums))
                if name.startswith("a line"):
                    self.assertEqual(told, "row")
        # Round three places by 2 the sums have to be even together, round four the odd ones as much as the even ones.
        self.assertEqual(self.told((3, SHAPES["a ring of 3 by 2"][1], (3, 5, 4))), "row")
        self.assertEqual(self.told((3, SHAPES["a ring of 3 by 2"][1], (3, 5, 5))), "none")
        self.assertEqual(self.told((4, SHAPES["a ring of 4 by 2"][1], (3, 5, 5, 3))), "row")
        self.assertEqual(self.told((4, SHAPES["a ring of 4 by 2"][1], (3, 5, 5, 4))), "none")

    def test_few_steps(self):
        for telling in drawn_tellings(207, 2, FAR // 7) + off_tellings(208, 2, FAR // 8):
            told = few_steps(solved, telling)
            self.assertIs(few_steps(solved_right, telling, told), True)


class Right(unittest.TestCase):
    def judged(self, telling, told, wanted):
        self.assertIs(asked_twice(self, solved_right, telling, told), wanted, (telling, told))

    def by_weights(self, telling, weights):
        wanted = weights_so(telling, weights)
        self.judged(telling, ("none", weights), wanted)
        return wanted

    def test_what_solved_tells(self):
        for far in (5, 10 ** 58):
            for telling in drawn_tellings(211, 3, far) + off_tellings(212, 3, far):
                self.judged(telling, solved(telling), True)

    def test_other_rows(self):
        chance = random.Random(213)
        let_by = 0
        for telling in drawn_tellings(214, 3, 2):
            row = solved(telling)[1]
            self.judged(telling, ("row", list(row)), True)
            for turn in range(5):
                other = tuple(number + chance.choice((-1, 0, 0, 1)) for number in row)
                wanted = sets_fit(telling, other)
                self.judged(telling, ("row", other), wanted)
                let_by += wanted and other != row
        self.assertGreater(let_by, 20)

    def test_one_number_otherwise(self):
        for telling in drawn_tellings(215, 2, 10 ** 58):
            row = solved(telling)[1]
            for place, number in enumerate(row):
                inside = any(place in places for places in telling[1])
                for other in (number + 1, number - 1, number + FAR, FARTHEST, -FARTHEST):
                    self.judged(telling, ("row", with_number(row, place, other)), not inside)
            for other in (row[:-1], row + (0,), (0,) + row, row + row, (), row + (FARTHEST,), (0,) * 500):
                self.judged(telling, ("row", other), False)

    def test_other_weights(self):
        chance = random.Random(216)
        let_by = 0
        for telling in none_tellings(217, 3, 20):
            weights = solved(telling)[1]
            # A whole number more is as good, and so is the other side of 0.
            for number, (top, bottom) in enumerate(weights):
                for times in (1, -1, 7, FAR, FARTHEST):
                    other = with_number(weights, number, (top + times * bottom, bottom))
                    self.assertTrue(self.by_weights(telling, other))
            self.assertTrue(self.by_weights(telling, tuple((-top, bottom) for top, bottom in weights)))
            for turn in range(6):
                number = chance.randrange(len(weights))
                other = (chance.randint(-4, 4), chance.randint(1, 4))
                let_by += self.by_weights(telling, with_number(weights, number, other))
        self.assertGreater(let_by, 10)

    def test_all_small_weights(self):
        ratios = list(itertools.product(range(-3, 5), range(-1, 5)))
        seen = {True: 0, False: 0}
        for telling in (UNLIKE, (2, ((0, 1), (0,)), (1, 1)), (1, ((0,), (0,)), (0, 12)), (2, ((0, 1), (0, 1)), (3, 9))):
            for weights in itertools.product(ratios, repeat=2):
                seen[self.by_weights(telling, weights)] += 1
        self.assertGreater(seen[True], 40)
        # Of these a row fits: no weights are so.
        for telling in ((2, ((0, 1), (0,)), (1, 1)), (1, ((0,), (0,)), (5, 5))):
            for weights in itertools.product(ratios, repeat=2):
                self.judged(telling, ("none", weights), False)

    def test_small_weights_of_three_sets(self):
        ratios = [(top, bottom) for top in range(-2, 3) for bottom in (1, 2, 3)]
        seen = {True: 0, False: 0}
        for weights in itertools.product(ratios, repeat=3):
            seen[self.by_weights(HALVES, weights)] += 1
        self.assertGreater(seen[True], 5)

    def test_more_or_fewer_weights(self):
        for telling in none_tellings(218, 2, 20):
            weights = solved(telling)[1]
            for other in ((), weights[:-1], weights[1:], weights + ((0, 1),), ((0, 1),) + weights, weights + weights,
                          weights + ((1, 2),), weights[:-1] + ((0, 1),) * 500):
                if len(other) != len(weights):
                    self.judged(telling, ("none", other), False)

    def test_no_ratios(self):
        for telling in none_tellings(219, 2, 20):
            weights = solved(telling)[1]
            for number, (top, bottom) in enumerate(weights):
                for other in ((top, 0), (0, 0), (-top, -bottom), (top, -bottom), (2 * top, 2 * bottom),
                              (-3 * top, -3 * bottom), (0, 2), (0, -1), (top * FAR, bottom * FAR),
                              (top * FARTHEST, bottom * FARTHEST), (1, -FARTHEST), (FARTHEST, 0)):
                    self.judged(telling, ("none", with_number(weights, number, other)), False)

    def test_whole_at_the_sums_too(self):
        self.judged(UNLIKE, ("none", ((1, 2), (1, 2))), True)
        self.judged((3, UNLIKE[1], (4, 6)), ("none", ((1, 2), (1, 2))), False)
        self.judged(HALVES, ("none", ((1, 2), (1, 2), (1, 2))), True)
        self.judged(HALVES[:2] + ((1, 1, 2),), ("none", ((1, 2), (1, 2), (1, 2))), False)
        for telling in none_tellings(220, 2, 20):
            for weight in ((0, 1), (1, 1), (-5, 1), (FARTHEST, 1)):
                self.judged(telling, ("none", (weight,) * len(telling[1])), False)

    def test_not_whole_at_some_place(self):
        self.judged(UNLIKE, ("none", ((1, 2), (0, 1))), False)
        self.judged((3, ((0,), (1,), (0, 1, 2)), (1, 1, 1)), ("none", ((1, 2), (1, 2), (1, 2))), False)
        self.judged((2, ((0,), (0, 1)), (1, 1)), ("none", ((1, 2), (1, 2))), False)
        # One place after the other is the only one that is wrong.
        for place in range(7):
            telling = (7, ((0, 1, 2, 3, 4, 5, 6), tuple(p for p in range(7) if p != place)), (1, 0))
            self.judged(telling, ("none", ((1, 2), (1, 2))), False)
            self.judged((7, telling[1][:1] * 2, (1, 0)), ("none", ((1, 2), (1, 2))), True)

    def test_great_weights(self):
        telling = (2, ((0, 1), (0, 1)), (0, 1))
        for bottom in (FAR, FARTHEST, FARTHEST + 1):
            for top in (1, -1, bottom - 1, bottom + 1):
                self.judged(telling, ("none", ((top, bottom), (-top, bottom))), True)
                self.judged(telling, ("none", ((top, bottom), (top, bottom))), False)
                self.judged((2, telling[1], (bottom, 2 * bottom)), ("none", ((top, bottom), (-top, bottom))), False)


if __name__ == "__main__":
    unittest.main()
