import itertools
import random
import unittest

from tellsum.base import base_of, base_right
from tests.helpers import asked_twice, few_steps, in_lists, whole_rows, with_number
from tests.sethelpers import (
    FAR, FARTHEST, SHAPES, base_so, direct_set_sums, drawn_tellings, rank_of, row_by_chance, set_rows, sets_fit,
    zero_telling)


def told_tellings(seed, each):
    return [(telling, base_of(telling)) for telling in drawn_tellings(seed, each, 9)]


def made_of(base, times):
    """The base rows, each so many times, added."""
    return tuple(sum(row[place] * time for row, time in zip(base, times)) for place in range(len(base[0])))


def back_times(back, row):
    return [sum(a * b for a, b in zip(back_row, row)) for back_row in back]


class Base(unittest.TestCase):
    def told(self, telling):
        told = asked_twice(self, base_of, telling)
        self.assertIs(type(told), tuple)
        self.assertEqual(len(told), 3)
        base, back, shares = told
        whole_rows(self, base, 2)
        whole_rows(self, back, 2)
        whole_rows(self, shares, 3)
        self.assertTrue(base_so(telling, told), telling)
        return told

    def test_each_shape(self):
        counts = set()
        for telling in drawn_tellings(221, 5, 9):
            many, sets = telling[:2]
            base = self.told(telling)[0]
            self.assertEqual(len(base), many - rank_of(set_rows(many, sets)))
            counts.add((many, len(base)))
        for many in range(1, 8):
            for count in {0, 1, many - 1} - {many}:
                self.assertIn((many, count), counts)

    def test_the_sums_are_left_aside(self):
        chance = random.Random(222)
        for telling in drawn_tellings(223, 1, 9):
            told = base_of(telling)
            for far in (1, FAR):
                self.assertTrue(base_so(telling[:2] + (row_by_chance(chance, len(telling[2]), far),), told))
                self.told(telling[:2] + (row_by_chance(chance, len(telling[2]), far),))

    def test_each_small_row_is_made_of_them(self):
        for telling in drawn_tellings(224, 1, 9):
            if telling[0] > 5:
                continue
            base, back = base_of(telling)[:2]
            for row in itertools.product(range(-2, 3), repeat=telling[0]):
                if any(row) and sets_fit(zero_telling(telling), row):
                    self.assertEqual(made_of(base, back_times(back, row)), row)

    def test_from_one_fitting_row_to_another(self):
        chance = random.Random(225)
        for telling in drawn_tellings(226, 2, 9):
            base, back = base_of(telling)[:2]
            row = row_by_chance(chance, telling[0], 10 ** 58)
            if base:
                other = tuple(a + b for a, b in zip(row, made_of(base, row_by_chance(chance, len(base), 10 ** 58))))
                self.assertEqual(direct_set_sums(row, telling[1]), direct_set_sums(other, telling[1]))
                times = back_times(back, [b - a for a, b in zip(row, other)])
                self.assertEqual(tuple(a + b for a, b in zip(row, made_of(base, times))), other)

    def test_by_hand(self):
        self.assertEqual(self.told((1, ((0,),), (5,))), ((), (), (((1, 1),),)))
        base, back, shares = self.told((2, ((0, 1),), (5,)))
        self.assertIn(base, (((1, -1),), ((-1, 1),)))
        base = self.told((3, ((0, 1), (1, 2), (0, 2)), (0, 0, 0)))[0]
        self.assertEqual(base, ())
        # A place that no set has is a row of its own.
        base = self.told((2, ((0,),), (5,)))[0]
        self.assertIn(base, (((0, 1),), ((0, -1),)))

    def test_rows_that_others_are_multiples_of_are_no_base(self):
        # Of all rows with sums of 0 some have numbers that 2, 3 .. don't divide.
        for telling in drawn_tellings(227, 1, 9):
            for row in base_of(telling)[0]:
                for parts in (2, 3, 5):
                    self.assertTrue(any(number % parts for number in row))

    def test_few_steps(self):
        for telling in drawn_tellings(228, 3, FAR // 7):
            told = few_steps(base_of, telling)
            self.assertIs(few_steps(base_right, telling, told), True)


class Right(unittest.TestCase):
    def judged(self, telling, told, wanted):
        self.assertIs(asked_twice(self, base_right, telling, told), wanted, (telling, told))

    def test_what_base_of_tells(self):
        for telling, (base, back, shares) in told_tellings(231, 3):
            self.judged(telling, (base, back, shares), True)
            self.judged(telling, (tuple(in_lists(base)), tuple(in_lists(back)), shares), True)

    def test_a_base_row_with_another_added(self):
        for telling, (base, back, shares) in told_tellings(232, 2):
            for i, j in itertools.permutations(range(len(base)), 2):
                for times in (1, -1, 3, FARTHEST):
                    other = with_number(base, i, tuple(a + times * b for a, b in zip(base[i], base[j])))
                    match = with_number(back, j, tuple(a - times * b for a, b in zip(back[j], back[i])))
                    self.judged(telling, (other, match, shares), True)
                    self.judged(telling, (other, back, shares), False)
                    self.judged(telling, (base, match, shares), False)

    def test_the_other_side_of_0(self):
        for telling, (base, back, shares) in told_tellings(233, 2):
            for i in range(len(base)):
                other = with_number(base, i, tuple(-number for number in base[i]))
                match = with_number(back, i, tuple(-number for number in back[i]))
                self.judged(telling, (other, match, shares), True)
                self.judged(telling, (other, back, shares), False)

    def test_in_another_order(self):
        for telling, (base, back, shares) in told_tellings(234, 2):
            for i, j in itertools.combinations(range(len(base)), 2):
                other = with_number(with_number(base, i, base[j]), j, base[i])
                match = with_number(with_number(back, i, back[j]), j, back[i])
                self.judged(telling, (other, match, shares), True)
                self.judged(telling, (other, back, shares), False)
                self.judged(telling, (base, match, shares), False)
            if len(base) > 1:
                self.judged(telling, (base[::-1], back[::-1], shares), True)

    def test_other_back_rows_and_shares(self):
        # What a set's row adds to a back row is taken off the shares of the base row's places.
        telling = (2, ((0, 1),), (0,))
        for times in range(-3, 4):
            told = (((1, -1),), ((times, times - 1),), (((1 - times, 1),), ((times, 1),)))
            self.assertTrue(base_so(telling, told))
            self.judged(telling, told, True)
        # The same set twice: what one share has more, the other has less, also great ones.
        telling = (1, ((0,), (0,)), (0, 0))
        for top, bottom in ((1, 1), (1, 2), (-7, 3), (FAR, 2), (FARTHEST + 1, FARTHEST)):
            self.judged(telling, ((), (), (((top, bottom), (bottom - top, bottom)),)), True)
            self.judged(telling, ((), (), (((top, bottom), (bottom - top + 1, bottom)),)), False)

    def test_one_number_otherwise(self):
        for telling, (base, back, shares) in told_tellings(235, 1):
            for more in (1, -1, FARTHEST):
                for j, place in itertools.product(range(len(base)), range(telling[0])):
                    other = with_number(base, j, with_number(base[j], place, base[j][place] + more))
                    self.judged(telling, (other, back, shares), False)
                    other = with_number(back, j, with_number(back[j], place, back[j][place] + more))
                    self.judged(telling, (base, other, shares), False)
                for place, number in itertools.product(range(telling[0]), range(len(telling[1]))):
                    top, bottom = shares[place][number]
                    for pair in ((top + more * bottom, bottom), (top, bottom + more), (-top, bottom),
                                 (top + more, bottom)):
                        if pair != (top, bottom):
                            other = with_number(shares, place, with_number(shares[place], number, pair))
                            self.judged(telling, (base, back, other), False)

    def test_all_small_ones(self):
        # All numbers of small tellings' papers gone through, near what is told.
        for telling in ((2, ((0, 1),), (0,)), (2, ((0,), (0, 1)), (0, 0)), (2, ((0,),), (4,))):
            base, back, shares = base_of(telling)
            let_by = 0
            numbers = [number for row in (*base, *back) for number in row]
            tops = [pair[0] for row in shares for pair in row]
            for chosen in itertools.product((-1, 0, 1, 2), repeat=min(4, len(numbers) + len(tops))):
                told = list(numbers + tops)
                told[:len(chosen)] = chosen
                taken = iter(told)
                made = (tuple(tuple(next(taken) for number in row) for row in base),
                        tuple(tuple(next(taken) for number in row) for row in back),
                        tuple(tuple((next(taken), pair[1]) for pair in row) for row in shares))
                wanted = base_so(telling, made)
                self.judged(telling, made, wanted)
                let_by += wanted
            self.assertGreater(let_by, 0)

    def test_left_out_and_put_in(self):
        for telling, (base, back, shares) in told_tellings(236, 2):
            many = telling[0]
            nothing = (0,) * many
            for j in range(len(base)):
                without = (base[:j] + base[j + 1:], back[:j] + back[j + 1:])
                self.judged(telling, without + (shares,), False)
                self.judged(telling, (without[0], back, shares), False)
                self.judged(telling, (base, without[1], shares), False)
                self.judged(telling, (base + (base[j],), back + (back[j],), shares), False)
                self.judged(telling, (base + (base[j],), back + (nothing,), shares), False)
                self.judged(telling, (with_number(base, j, nothing), back, shares), False)
            self.judged(telling, (base + (nothing,), back + (nothing,), shares), False)
            self.judged(telling, (base + (nothing,), back, shares), False)
            self.judged(telling, (base, back + (nothing,), shares), False)
            for longer in ((base + (nothing,) * 900, back + (nothing,) * 900, shares),
                           (base * 900, back * 900, shares)):
                self.assertIs(few_steps(base_right, telling, longer), base == () == longer[0])
            for place in range(many):
                self.judged(telling, (base, back, shares[:place] + shares[place + 1:]), False)
                self.judged(telling, (base, back, with_number(shares, place, shares[place][:-1])), False)
                self.judged(telling, (base, back, with_number(shares, place, shares[place] + ((0, 1),))), False)
                self.judged(telling, (base, back, with_number(shares, place, ())), False)
            self.judged(telling, (base, back, shares + (((0, 1),) * len(telling[1]),)), False)
            self.judged(telling, (base, back, ()), False)
            self.judged(telling, ((), (), ()), False)

    def test_rows_of_other_lengths(self):
        for telling, (base, back, shares) in told_tellings(237, 2):
            for j in range(len(base)):
                for change in (lambda row: row[:-1], lambda row: row + (0,), lambda row: (), lambda row: (0,) + row,
                               lambda row: row + (FARTHEST,), lambda row: row * 100):
                    self.judged(telling, (with_number(base, j, change(base[j])), back, shares),
                                len(change(base[j])) == telling[0])
                    self.judged(telling, (base, with_number(back, j, change(back[j])), shares),
                                len(change(back[j])) == telling[0])

    def test_no_ratios(self):
        for telling, (base, back, shares) in told_tellings(238, 1):
            for place, number in itertools.product(range(telling[0]), range(len(telling[1]))):
                top, bottom = shares[place][number]
                for pair in ((top, 0), (0, 0), (-top, -bottom), (2 * top, 2 * bottom), (-3 * top, -3 * bottom),
                             (top * FARTHEST, bottom * FARTHEST), (0, -1), (1, -FARTHEST)):
                    other = with_number(shares, place, with_number(shares[place], number, pair))
                    self.judged(telling, (base, back, other), False)

    def test_base_rows_that_do_not_fit(self):
        # All products are right, but the row has other sums than 0: the shares leave them aside.
        telling = (2, ((0, 1), (0, 1)), (0, 0))
        told = (((1, -1),), ((0, -1),), (((1, 1), (0, 1)), ((0, 1), (0, 1))))
        self.judged(telling, told, True)
        wrong = (((1, 0), (0, 1)), ((1, 0), (0, 1)), (((0, 1), (0, 1)), ((0, 1), (0, 1))))
        self.assertFalse(base_so(telling, wrong))
        self.judged(telling, wrong, False)

    def test_multiples_are_no_base(self):
        for telling, (base, back, shares) in told_tellings(239, 1):
            for j in range(len(base)):
                for times in (2, 3, -2, 0):
                    other = with_number(base, j, tuple(times * number for number in base[j]))
                    self.judged(telling, (other, back, shares), False)

    def test_shapes_of_another_telling(self):
        named = [(many, sets, (0,) * len(sets)) for many, sets in SHAPES.values()]
        for telling, other in itertools.product(named, repeat=2):
            told = base_of(other)
            wanted = telling[0] == other[0] and len(telling[1]) == len(other[1]) and base_so(telling, told)
            self.judged(telling, told, wanted)


if __name__ == "__main__":
    unittest.main()
