import itertools
import random
import unittest

from tellsum.ringjudge import ring_right
from tellsum.rings import fitted_ring
from tests.helpers import (
    all_ring_rows, asked_twice, few_steps, flat, great_rings, moved, ring_direct_sums, ring_fits, ring_mores,
    ring_paper_so, ring_walk, ring_whole, rounds_of, small_rings, tiny_rings, with_number)

FAR = 10 ** 60 - 1
FARTHEST = 10 ** 5000


def right_places(ring):
    return tuple(range(rounds_of(ring)))


class Judge(unittest.TestCase):
    def judged(self, ring, told, wanted):
        self.assertIs(asked_twice(self, ring_right, ring, told), wanted, told[0])

    def judged_row(self, ring, row, wanted):
        self.judged(ring, ("row", tuple(row)), wanted)
        self.judged(ring, ("row", list(row)), wanted)


class OfWhatIsTold(Judge):
    def test_what_fitted_ring_tells(self):
        for ring in small_rings(81, 80) + tiny_rings():
            self.judged(ring, fitted_ring(ring), True)

    def test_great_rings(self):
        for ring in great_rings():
            k, sums, least, greatest = ring
            for other in (ring, (k, sums, least, least), (k, sums, greatest, greatest),
                          (k, with_number(sums, 3, sums[3] + 1), least, greatest),
                          (k, tuple(number + 1 for number in sums), least, greatest)):
                self.assertIs(few_steps(ring_right, other, fitted_ring(other)), True)


class OfRows(Judge):
    def test_just_the_least(self):
        for ring in small_rings(82, 40):
            rows = all_ring_rows(ring)
            for row in rows:
                self.judged_row(ring, row, row == rows[0])

    def test_rows_near(self):
        chance = random.Random(83)
        for ring in small_rings(84, 12, 3):
            least = all_ring_rows(ring)[:1]
            around = [(low - 1, low, high, high + 1) for low, high in zip(ring[2], ring[3])]
            for turn in range(60):
                row = tuple(chance.choice(numbers) for numbers in around)
                self.judged_row(ring, row, [row] == least)

    def test_one_number_otherwise_more_or_fewer(self):
        for ring in small_rings(85, 15, 4):
            for row in all_ring_rows(ring)[:1]:
                self.judged_row(ring, row, True)
                for place, number in enumerate(row):
                    for other in (number - 1, number + 1, FAR, -FAR, FARTHEST, -FARTHEST):
                        self.judged_row(ring, with_number(row, place, other), False)
                    self.judged_row(ring, row[:place] + row[place + 1:], False)
                    self.judged_row(ring, row[:place] + (0,) + row[place:], False)
                for other in ((), row + row, row[:1], row + (row[0],), flat(60)):
                    self.judged_row(ring, other, False)

    def test_lesser_by_any_two_rounds(self):
        # From the least row on 1 is moved between two rounds: it fits, but is not the least any more.
        for k, many in ((2, 2), (2, 6), (3, 3), (3, 9), (4, 4), (4, 8), (4, 6), (5, 5), (5, 10)):
            parts = rounds_of((k, flat(many)))
            times = k // parts
            ring = (k, flat(many, 5 * times), flat(many), flat(many, 5))
            row = tuple(5 * (p % parts == parts - 1) for p in range(many))
            self.judged_row(ring, row, True)
            for j in range(parts - 1):
                self.judged_row(ring, moved(row, parts, parts - 1, j), False)
                # Round j alone has more than its least number, and no later one has room: the least row again.
                tight = tuple(5 if p % parts == j else 0 for p in range(many))
                self.judged_row((k, ring[1], flat(many), tight), tight, True)
                self.judged_row(ring, tight, False)

    def test_a_row_that_has_all_sums_but_is_beyond_a_bound(self):
        ring = (2, (3, 3), (0, 0), (3, 3))
        self.judged_row(ring, (0, 3), True)
        self.judged_row(ring, (-1, 4), False)
        self.judged_row(ring, (1, 2), False)

    def test_great_rings(self):
        for ring in great_rings():
            row = fitted_ring(ring)[1]
            parts = rounds_of(ring)
            self.assertIs(few_steps(ring_right, ring, ("row", row)), True)
            self.judged_row(ring, with_number(row, 7 % len(row), row[7 % len(row)] + 1), False)
            for j, later in itertools.combinations(range(parts), 2):
                other = moved(row, parts, later, j)
                if ring_fits(ring, other):
                    self.judged_row(ring, other, False)

    def test_no_row_where_none_fits(self):
        for ring in small_rings(86, 40, 3):
            if not all_ring_rows(ring):
                for row in (ring[2], ring[3], (), flat(len(ring[1]))):
                    self.judged_row(ring, row, False)


class OfRoundsAndParts(Judge):
    def test_every_round_and_part(self):
        seen = {"round": 0, "part": 0}
        for ring in small_rings(87, 80) + tiny_rings()[::3]:
            many = len(ring[1])
            for number in list(range(-many - 2, many + 3)) + [FAR, -FAR, FARTHEST, -FARTHEST]:
                for word in ("round", "part"):
                    wanted = ring_paper_so(ring, (word, number))
                    self.judged(ring, (word, number), wanted)
                    seen[word] += wanted
        self.assertGreater(min(seen.values()), 30, seen)

    def test_rounds_counted_from_behind(self):
        # Four places by 2, two rounds: both don't come back to 0, other numbers are no rounds.
        ring = (2, (0, 0, 1, 1), flat(4, -9), flat(4, 9))
        for j in range(-9, 10):
            wanted = ring_paper_so(ring, ("round", j))
            self.judged(ring, ("round", j), wanted)
            self.assertTrue(0 <= j < 2 or not wanted)
        ring = (2, (0, 1, 1, 1), flat(4, -9), flat(4, 9))
        self.judged(ring, ("round", 0), True)
        self.judged(ring, ("round", 1), True)
        for j in (-2, -1, 2, 3, 4, FAR, -FAR):
            self.judged(ring, ("round", j), False)

    def test_a_round_that_comes_back(self):
        # Six places by 3: what sum 1 is more than sum 0 is taken back by what sum 5 is more than sum 4.
        row = (1, 2, 0, 3, 1, 2)
        sums = ring_direct_sums(row, 3)
        ring = (3, with_number(sums, 2, sums[2] + 1), flat(6, -9), flat(6, 9))
        for j in range(3):
            self.judged(ring, ("round", j), j != 0)
        ring = (3, sums, flat(6, -9), flat(6, 9))
        for j in range(3):
            self.judged(ring, ("round", j), False)

    def test_every_left(self):
        for k, many in ((2, 3), (3, 4), (4, 5), (5, 6), (4, 6), (5, 24), (2, 2), (5, 5), (4, 24)):
            times = k // rounds_of((k, flat(many)))
            for total in list(range(-6, 7)) + [FAR, -FAR]:
                ring = (k, flat(many, total), flat(many, -FAR), flat(many, FAR))
                left = total % times
                for number in list(range(-6, 12)) + [left + times, left - times, total, FAR, -FAR, FARTHEST]:
                    self.judged(ring, ("part", number), left != 0 and number == left)

    def test_no_part_where_a_round_is_so(self):
        # Six places by 4, each round twice among the first four places: what is left would be 1.
        ring = (4, (1, 0, 0, 0, 0, 0), flat(6, -9), flat(6, 9))
        self.assertTrue(any(ring_walk(ring, j)[1] != 0 for j in range(2)))
        for left in range(-2, 4):
            self.judged(ring, ("part", left), False)


class OfPlaces(Judge):
    def test_every_clash(self):
        so = 0
        for ring in small_rings(88, 40, 4) + tiny_rings()[::7]:
            many = len(ring[2])
            numbers = list(range(-many - 2, many + 3)) + [FAR, -FAR]
            for a, b in itertools.product(numbers, repeat=2):
                wanted = ring_paper_so(ring, ("clash", a, b))
                self.assertIs(ring_right(ring, ("clash", a, b)), wanted)
                so += wanted
        self.assertGreater(so, 50)

    def test_every_low_and_high(self):
        seen = {"low": 0, "high": 0}
        for ring in small_rings(89, 40, 4) + tiny_rings()[::7]:
            many = len(ring[2])
            numbers = range(-1, many + 1) if rounds_of(ring) < 4 else range(many)
            for places in itertools.product(numbers, repeat=rounds_of(ring)):
                for word in ("low", "high"):
                    wanted = ring_paper_so(ring, (word, places))
                    self.assertIs(ring_right(ring, (word, places)), wanted)
                    seen[word] += wanted
        self.assertGreater(min(seen.values()), 20, seen)

    def test_clash_by_one_and_the_other_way_about(self):
        ring = (2, (3, 5, 4), (0, 0, 4), (1, 9, 9))
        self.judged(ring, ("clash", 2, 0), True)
        self.judged(ring, ("clash", 0, 2), False)
        self.judged(ring, ("clash", 2, 1), False)
        self.judged(ring, ("clash", 2, 2), False)
        self.judged((2, (3, 5, 4), (0, 0, 3), (1, 9, 9)), ("clash", 2, 0), False)
        for a, b in ((-1, 0), (2, -3), (-1, -3), (5, 0), (2, 3), (FAR, 0), (2, -FARTHEST)):
            self.judged(ring, ("clash", a, b), False)

    def test_clash_of_unlike_rounds(self):
        ring = (2, flat(4), (5, -9, 5, -9), (9, -5, 9, -5))
        for a, b in itertools.product(range(4), repeat=2):
            self.judged(ring, ("clash", a, b), False)

    def test_no_places_where_a_round_or_a_part_is_so(self):
        # With right sums these places would be a clash, a low, a high.
        for sums, clash in (((0, 0, 0, 0), True), ((0, 1, 0, 0), False)):
            self.judged((2, sums, (5, -9, -9, -9), (9, 9, -5, 9)), ("clash", 0, 2), clash)
            self.judged((2, sums, (9, 9, 9, 9), (9, 9, 9, 9)), ("low", (0, 1)), clash)
            self.judged((2, sums, (-9, -9, -9, -9), (-9, -9, -9, -9)), ("high", (0, 1)), clash)
        for sums, clash in (((0, 0, 0), True), ((1, 1, 1), False), ((2, 2, 2), True)):
            self.judged((2, sums, (5, -9, -9), (9, 9, 4)), ("clash", 0, 2), clash)
            self.judged((2, sums, (9, 9, 9), (9, 9, 9)), ("low", (0,)), clash)
            self.judged((2, sums, (-9, -9, -9), (-9, -9, -9)), ("high", (0,)), clash)

    def edge_rings(self, word):
        """Rings with places whose bounds less their mores add up to just TOTAL, and to one beyond it."""
        for k in (2, 3, 4, 5):
            for many in (k, k + 1, k + 2, 3 * k):
                row = tuple(p * p % 5 for p in range(many))
                sums = ring_direct_sums(row, k)
                step = k // rounds_of((k, sums))
                if word == "low":
                    just = (k, sums, row, flat(many, 99))
                    off = (k, tuple(number - step for number in sums), row, flat(many, 99))
                else:
                    just = (k, sums, flat(many, -99), row)
                    off = (k, tuple(number + step for number in sums), flat(many, -99), row)
                yield just, off

    def test_low_and_high_by_one_and_just_not(self):
        for word in ("low", "high"):
            for just, off in self.edge_rings(word):
                parts = rounds_of(just)
                for turn in range(len(just[2]) // parts):
                    places = tuple(range(parts * turn, parts * turn + parts))
                    self.judged(off, (word, places), True)
                    self.judged(just, (word, places), False)
                    self.judged(off, ("high" if word == "low" else "low", places), False)

    def test_low_and_high_of_wrong_places(self):
        for word in ("low", "high"):
            for just, off in self.edge_rings(word):
                many, right = len(off[2]), right_places(off)
                parts = len(right)
                self.judged(off, (word, right), True)
                for places in itertools.permutations(right):
                    self.judged(off, (word, places), places == right)
                for places in ((), right[:-1], right[1:], right + (parts,), right + (0,), right + right):
                    self.judged(off, (word, places), False)
                for j in range(parts):
                    for number in (j - many, j - parts, -1, many, many + j, many * parts + j, FAR, -FAR, FARTHEST):
                        self.judged(off, (word, with_number(right, j, number)), False)
                    if parts > 1:
                        self.judged(off, (word, with_number(right, j, (j + 1) % parts)), False)

    def test_k_places_are_too_many_where_rounds_are_fewer(self):
        ring = (4, flat(6, 0), flat(6, 1), flat(6, 9))
        self.judged(ring, ("low", (0, 1)), True)
        self.judged(ring, ("low", (0, 1, 2, 3)), False)
        self.judged(ring, ("low", (4, 5)), True)
        self.judged(ring, ("low", (2, 0)), False)

    def test_no_paper_where_a_row_fits(self):
        for ring in small_rings(90, 20, 3):
            if all_ring_rows(ring):
                many, parts = len(ring[2]), rounds_of(ring)
                for a, b in itertools.product(range(many), repeat=2):
                    self.judged(ring, ("clash", a, b), False)
                for places in itertools.product(*[range(j, many, parts) for j in range(parts)]):
                    self.judged(ring, ("low", places), False)
                    self.judged(ring, ("high", places), False)
                for number in range(-1, 7):
                    self.judged(ring, ("round", number), False)
                    self.judged(ring, ("part", number), False)

    def test_great_papers(self):
        for ring in great_rings():
            k, sums, least, greatest = ring
            parts = rounds_of(ring)
            mores = ring_mores(ring)
            whole = ring_whole(ring)
            for word, bounds, step in (("low", least, -1), ("high", greatest, 1)):
                asked = sum(bounds[p] - mores[p] for p in range(parts)) * (k // parts)
                for more, wanted in ((0, False), (step, True), (-step, False), (step * FAR, True)):
                    other = (k, tuple(s + asked - whole + more * (k // parts) for s in sums), least, greatest)
                    self.assertIs(few_steps(ring_right, other, (word, tuple(range(parts)))), wanted)


if __name__ == "__main__":
    unittest.main()
