import itertools
import random
import unittest

from tellsum.errors import NoFit, NoNumber
from tellsum.rings import fitted_ring, ring_at, ring_many, ring_number
from tests.helpers import (
    all_ring_rows, asked_twice, few_steps, flat, great_ring, great_rings, moved, refused_alone, ring_direct_sums,
    ring_fits, ring_mores, ring_paper_so, ring_walk, ring_whole, rounds_of, small_rings, tiny_rings, whole_rows,
    with_number)

FAR = 10 ** 60 - 1
FARTHEST = 10 ** 5000
WORDS = ("row", "round", "part", "clash", "low", "high")


def is_first(ring, row, down_first=True):
    """Whether a row that fits is the least: else an earlier round could go down, a later one up (or about)."""
    parts = rounds_of(ring)
    for j, later in itertools.combinations(range(parts), 2):
        other = moved(row, parts, j, later) if down_first else moved(row, parts, later, j)
        if ring_fits(ring, other):
            return False
    return True


class Fitted(unittest.TestCase):
    def judged(self, ring):
        """What is told, after the least of all rows or the paper has been walked."""
        told = asked_twice(self, fitted_ring, ring)
        self.assertIs(type(told), tuple)
        rows = all_ring_rows(ring)
        if rows:
            self.assertEqual(told, ("row", rows[0]))
            whole_rows(self, told[1], 1)
        else:
            self.paper(ring, told)
        return told[0]

    def paper(self, ring, told):
        self.assertIn(told[0], WORDS[1:])
        self.assertEqual(len(told), 3 if told[0] == "clash" else 2)
        if told[0] in ("low", "high"):
            whole_rows(self, told[1], 1)
        else:
            whole_rows(self, told[1:], 1)
        self.assertTrue(ring_paper_so(ring, told), (ring, told))

    def test_small_rings(self):
        for k in (2, 3, 4, 5):
            seen = dict.fromkeys(WORDS, 0)
            for ring in small_rings(71, 300):
                if ring[0] == k:
                    seen[self.judged(ring)] += 1
            self.assertGreater(min(seen.values()), 0, (k, seen))
            self.assertGreater(seen["row"], 30)

    def test_tiny_rings(self):
        seen = dict.fromkeys(WORDS, 0)
        for ring in tiny_rings():
            seen[self.judged(ring)] += 1
        self.assertGreater(min(seen["row"], seen["round"], seen["part"], seen["low"], seen["high"]), 10, seen)

    def test_each_count_of_places(self):
        # Where k is the count of places, where it divides it, where both have no common divisor, where one is between.
        for k in (2, 3, 4, 5):
            for many in range(k, 25):
                row = tuple(7 * p * p % 11 - 4 for p in range(many))
                ring = (k, ring_direct_sums(row, k), row, row)
                self.assertEqual(fitted_ring(ring), ("row", row))
                wide = (k, ring[1], flat(many, -40), flat(many, 40))
                told = fitted_ring(wide)
                self.assertTrue(ring_fits(wide, told[1]) and is_first(wide, told[1]))
                if rounds_of(ring) == 1:
                    self.assertEqual(told, ("row", row))

    def test_the_example(self):
        mores, back = ring_walk((2, (3, 5, 4)), 0)
        self.assertEqual((list(mores.items()), back), ([(0, 0), (2, 2), (1, 1)], 0))
        self.assertEqual(fitted_ring((2, (3, 5, 4), flat(3), flat(3, 9))), ("row", (1, 2, 3)))
        self.assertEqual(fitted_ring((2, (3, 5, 4), (1, 2, 3), (1, 2, 3))), ("row", (1, 2, 3)))
        self.assertEqual(fitted_ring((2, (3, 5, 4), (2, 0, 0), flat(3, 9))), ("low", (0,)))
        self.assertEqual(fitted_ring((2, (3, 5, 4), flat(3), (9, 9, 2))), ("high", (2,)))
        self.assertEqual(fitted_ring((2, (3, 5, 4), (0, 0, 4), (1, 9, 9))), ("clash", 2, 0))
        self.assertEqual(fitted_ring((2, (3, 5, 5), flat(3), flat(3, 9))), ("part", 1))

    def test_as_many_places_as_neighbours(self):
        for k in (2, 3, 4, 5):
            self.assertEqual(fitted_ring((k, flat(k, 1), flat(k), flat(k, 1))), ("row", flat(k - 1) + (1,)))
            for i in range(k):
                told = fitted_ring((k, with_number(flat(k, 1), i, 2), flat(k), flat(k, 1)))
                self.assertEqual(told[0], "round")
                # Going on by k from place i sum i + 1 is asked: the sum that is off is off from both its neighbours.
                self.assertIn(told[1], (i, (i - 1) % k))
            self.assertEqual(fitted_ring((k, flat(k, -1), flat(k), flat(k, 1))), ("low", tuple(range(k))))
            self.assertEqual(fitted_ring((k, flat(k, k + 1), flat(k), flat(k, 1))), ("high", tuple(range(k))))

    def test_one_round_off(self):
        # Four places by 2: places 0 and 2 are a round, 1 and 3 the other one.
        ring = (2, (3, 3, 3, 3), flat(4), flat(4, 3))
        self.assertEqual(fitted_ring(ring), ("row", (0, 3, 0, 3)))
        self.assertEqual(fitted_ring((2, (3, 4, 5, 5), flat(4), flat(4, 3)))[0], "round")
        # Six places by 3: a change of sums 0 and 1 alike leaves the step between them as it was.
        row = (1, 2, 0, 3, 1, 2)
        sums = ring_direct_sums(row, 3)
        for j in range(3):
            changed = list(sums)
            for i in range(j + 1, 6):
                changed[i] += 1
            # From j on to 5 all sums are 1 more: the rounds of j and of 5 don't come back to 0.
            told = fitted_ring((3, tuple(changed), flat(6, -9), flat(6, 9)))
            wanted = [("round", i) for i in range(3) if (i == j) != (i == 2)]
            if wanted:
                self.assertIn(told, wanted)
            else:
                self.assertNotEqual(told[0], "round")

    def test_part_each_left(self):
        for k, many in ((2, 3), (2, 7), (3, 4), (3, 5), (4, 5), (4, 6), (5, 6), (5, 9), (4, 10), (3, 23), (5, 24)):
            parts = rounds_of((k, flat(many)))
            for total in range(-7, 8):
                ring = (k, flat(many, total), flat(many, -9), flat(many, 9))
                told = fitted_ring(ring)
                if total % (k // parts) == 0:
                    self.assertEqual(told[0], "row")
                else:
                    self.assertEqual(told, ("part", total % (k // parts)))

    def test_sums_ahead_of_bounds(self):
        # No row has these sums, and bounds rule out all besides: the round, the part is what is told.
        self.assertEqual(fitted_ring((2, (3, 5, 5), (9, 0, 0), flat(3, 9))), ("part", 1))
        self.assertEqual(fitted_ring((2, (0, 1), (9, 9), (9, 9)))[0], "round")
        # A round ahead of a part: six places by 4 have two rounds, each with two of the first four places.
        ring = (4, (1, 0, 0, 0, 0, 0), flat(6, -9), flat(6, 9))
        self.assertEqual(fitted_ring(ring)[0], "round")
        self.assertFalse(ring_paper_so(ring, ("part", 1)))

    def test_edges_by_one(self):
        for ring in great_rings():
            k, sums, least, greatest = ring
            parts = rounds_of(ring)
            mores = ring_mores(ring)
            total = ring_whole(ring) * parts // k
            # All places of a round ask the same: just so much, 1 too much, 1 too little.
            heads = [total // parts] * (parts - 1)
            heads.append(total - sum(heads))
            row = tuple(heads[p % parts] + mores[p] for p in range(len(sums)))
            self.assertEqual(fitted_ring((k, sums, row, row)), ("row", row))
            for place in (0, len(sums) - 1, len(sums) // 2):
                up = with_number(row, place, row[place] + 1)
                down = with_number(row, place, row[place] - 1)
                wide = tuple(number + FAR for number in row)
                deep = tuple(number - FAR for number in row)
                if len(sums) > parts:
                    told = fitted_ring((k, sums, up, with_number(row, place, row[place] + 1)))
                    self.assertEqual((told[0], told[1]), ("clash", place))
                told = fitted_ring((k, sums, up, wide))
                self.assertEqual(told[0], "low")
                self.assertEqual(told[1][place % parts], place)
                told = fitted_ring((k, sums, deep, down))
                self.assertEqual(told[0], "high")
                self.assertEqual(told[1][place % parts], place)
                self.assertEqual(fitted_ring((k, sums, down, up))[0], "row")


class GreatRings(unittest.TestCase):
    def test_rows(self):
        for ring in great_rings():
            told = few_steps(fitted_ring, ring)
            self.assertEqual(told[0], "row")
            self.assertTrue(ring_fits(ring, told[1]))
            self.assertTrue(is_first(ring, told[1]))

    def papers(self, ring):
        """The ring with a sum, with all sums, with a bound off, so that no row fits it any more."""
        k, sums, least, greatest = ring
        many = len(sums)
        yield (k, with_number(sums, many // 2, sums[many // 2] + 1), least, greatest)
        yield (k, with_number(sums, 0, -sums[0]), least, greatest)
        yield (k, tuple(number + 1 for number in sums), least, least)
        yield (k, sums, least, least)
        yield (k, sums, greatest, greatest)
        yield (k, tuple(number + 60 * FAR for number in sums), least, greatest)
        yield (k, tuple(number - 60 * FAR for number in sums), least, greatest)
        for place in (0, 1, many - 1):
            yield (k, sums, with_number(least, place, 60 * FAR), with_number(greatest, place, 60 * FAR))
            yield (k, sums, with_number(least, place, -60 * FAR), with_number(greatest, place, -60 * FAR))

    def test_papers(self):
        seen = dict.fromkeys(WORDS, 0)
        for ring in great_rings():
            for other in self.papers(ring):
                told = few_steps(fitted_ring, other)
                seen[told[0]] += 1
                if told[0] == "row":
                    self.assertTrue(ring_fits(other, told[1]))
                    self.assertEqual(rounds_of(ring), 1)
                else:
                    self.assertTrue(ring_paper_so(other, told), told)
                    self.assertEqual(few_steps(ring_many, other), 0)
        self.assertGreater(min(seen[word] for word in WORDS[1:]), 3, seen)


class SmallCounts(unittest.TestCase):
    def judged(self, ring):
        rows = all_ring_rows(ring)
        many = asked_twice(self, ring_many, ring)
        self.assertIs(type(many), int)
        self.assertEqual(many, len(rows))
        for number, row in enumerate(rows):
            told = asked_twice(self, ring_at, ring, number)
            self.assertEqual(told, row)
            whole_rows(self, told, 1)
            self.assertEqual(asked_twice(self, ring_number, ring, row), number)
            self.assertEqual(asked_twice(self, ring_number, ring, list(row)), number)
        for number in (-1, -2, len(rows), len(rows) + 1, -len(rows) - 1, FAR, -FAR, FARTHEST, -FARTHEST):
            refused_alone(self, NoNumber, ring_at, ring, number)
        return len(rows)

    def test_by_two_to_five(self):
        for k in (2, 3, 4, 5):
            counts = [self.judged(ring) for ring in small_rings(72, 80) if ring[0] == k]
            self.assertIn(0, counts)
            self.assertIn(1, counts)
            self.assertGreater(max(counts), 2)

    def test_tiny(self):
        for ring in tiny_rings():
            self.judged(ring)

    def test_wider_bounds(self):
        chance = random.Random(73)
        for k, many in ((2, 2), (2, 4), (3, 3), (3, 6), (4, 4), (4, 6), (4, 2 * 7), (5, 5)):
            for turn in range(4):
                least = tuple(chance.randint(-3, 0) for place in range(many))
                greatest = tuple(low + chance.randint(2, 5) for low in least)
                # Every total from beneath the lows to above the highs.
                for total in range(-3 * k - 1, 5 * k + 2):
                    ring = (k, flat(many, total), least, greatest)
                    rows = all_ring_rows(ring)
                    self.assertEqual(ring_many(ring), len(rows))
                    self.assertEqual([ring_at(ring, number) for number in range(len(rows))], rows)
                    self.assertEqual([ring_number(ring, row) for row in rows], list(range(len(rows))))

    def test_none_by_whichever_paper(self):
        seen = dict.fromkeys(WORDS[1:], 0)
        for ring in small_rings(74, 150) + tiny_rings():
            word = fitted_ring(ring)[0]
            if word != "row":
                seen[word] += 1
                self.assertEqual(ring_many(ring), 0)
                for number in (0, 1, -1):
                    refused_alone(self, NoNumber, ring_at, ring, number)
                refused_alone(self, NoFit, ring_number, ring, ring[2])
        self.assertGreater(min(seen.values()), 3, seen)

    def test_sums_that_no_row_has_within_wide_bounds(self):
        # Were the round or the part not seen, the bounds would leave rows enough.
        for ring in ((2, (0, 1), flat(2, -9), flat(2, 9)), (2, (1, 1, 1), flat(3, -9), flat(3, 9)),
                     (4, flat(6, 1), flat(6, -9), flat(6, 9)), (3, (0, 0, 0, 1, 0, 0), flat(6, -9), flat(6, 9))):
            self.assertEqual(ring_many(ring), 0)
            refused_alone(self, NoNumber, ring_at, ring, 0)

    def test_by_hand(self):
        ring = (2, (3, 3), flat(2), flat(2, 3))
        self.assertEqual(ring_many(ring), 4)
        self.assertEqual([ring_at(ring, number) for number in range(4)], [(0, 3), (1, 2), (2, 1), (3, 0)])
        self.assertEqual(ring_number(ring, [2, 1]), 2)
        self.assertEqual(ring_many((2, (3, 5, 4), flat(3), flat(3, 9))), 1)
        self.assertEqual(ring_at((2, (3, 5, 4), flat(3), flat(3, 9)), 0), (1, 2, 3))
        self.assertEqual(ring_many((5, flat(5, 3), flat(5), flat(5, 9))), 35)
        # Two rounds of three places: the sums are 2 by each head, so 4 leaves heads of 2 together.
        self.assertEqual(ring_many((4, flat(6, 4), flat(6), flat(6, 9))), 3)


class RowsThatDoNotFit(unittest.TestCase):
    def test_refused(self):
        for ring in small_rings(75, 12, 3):
            for row in all_ring_rows(ring)[:2]:
                for place, number in enumerate(row):
                    for other in (number - 1, number + 1, FAR, -FAR, FARTHEST):
                        refused_alone(self, NoFit, ring_number, ring, with_number(row, place, other))
                    refused_alone(self, NoFit, ring_number, ring, row[:place] + row[place + 1:])
                refused_alone(self, NoFit, ring_number, ring, row + (0,))
                refused_alone(self, NoFit, ring_number, ring, list(row) + [row[-1]])
                refused_alone(self, NoFit, ring_number, ring, row + row)
            for row in ((), [], flat(1), flat(60)):
                refused_alone(self, NoFit, ring_number, ring, row)

    def test_all_sums_but_beyond_a_bound(self):
        ring = (2, (3, 3), flat(2), flat(2, 3))
        for row in ((-1, 4), (4, -1)):
            refused_alone(self, NoFit, ring_number, ring, row)

    def test_all_sums_but_one(self):
        # All sums of the line stay, the one round the end doesn't.
        ring = (2, (3, 5, 4), flat(3), flat(3, 9))
        refused_alone(self, NoFit, ring_number, ring, (2, 1, 4))
        refused_alone(self, NoFit, ring_number, ring, (0, 3, 2))


class GreatCounts(unittest.TestCase):
    def judged(self, ring):
        many = few_steps(ring_many, ring)
        chance = random.Random(76)
        numbers = [0, 1, many // 3, many // 2, many - 2, many - 1] + [chance.randrange(many) for turn in range(3)]
        ahead = None
        for number in sorted(set(numbers) & set(range(many)) if many < 9 else set(numbers)):
            row = few_steps(ring_at, ring, number)
            self.assertTrue(ring_fits(ring, row))
            self.assertEqual(few_steps(ring_number, ring, row), number)
            self.assertTrue(ahead is None or ahead < row)
            ahead = row
        self.assertTrue(is_first(ring, ring_at(ring, 0)))
        self.assertEqual(fitted_ring(ring), ("row", ring_at(ring, 0)))
        self.assertTrue(is_first(ring, ring_at(ring, many - 1), False))
        for number in (-1, many, many + 1, 2 * many, -many, FARTHEST, -FARTHEST):
            refused_alone(self, NoNumber, ring_at, ring, number)
        return many

    def test_rows_lead_to_numbers_and_back(self):
        for ring in great_rings():
            many = self.judged(ring)
            if rounds_of(ring) == 1:
                self.assertEqual(many, 1)
            else:
                self.assertGreater(many, 10 ** 50)

    def test_bounds_as_wide_as_can_be(self):
        for k, many in ((2, 24), (3, 24), (4, 24), (5, 20), (4, 22), (5, 24)):
            self.judged((k, flat(many, 20), flat(many, -FAR), flat(many, FAR)))

    def test_counted_by_hand(self):
        def wide(k, many, total):
            return (k, flat(many, total), flat(many), flat(many, FAR))

        self.assertEqual(ring_many(wide(2, 24, FAR)), FAR + 1)
        self.assertEqual(ring_many(wide(2, 24, FAR + 5)), FAR - 4)
        self.assertEqual(ring_many(wide(2, 23, FAR)), 0)
        self.assertEqual(ring_many(wide(2, 23, FAR - 1)), 1)
        self.assertEqual(ring_many(wide(3, 24, FAR)), (FAR + 1) * (FAR + 2) // 2)
        self.assertEqual(ring_many(wide(4, 24, FAR)), (FAR + 1) * (FAR + 2) * (FAR + 3) // 6)
        self.assertEqual(ring_many(wide(4, 22, 2 * FAR)), FAR + 1)
        self.assertEqual(ring_many(wide(4, 22, FAR)), 0)
        self.assertEqual(ring_many(wide(5, 20, FAR)), (FAR + 1) * (FAR + 2) * (FAR + 3) * (FAR + 4) // 24)
        self.assertEqual(ring_many(wide(5, 24, 5 * FAR)), 1)
        self.assertEqual(ring_many(wide(5, 24, 5 * FAR + 5)), 0)

    def test_rows_side_by_side(self):
        for ring in great_rings():
            parts = rounds_of(ring)
            many = ring_many(ring)
            if parts > 1:
                row = ring_at(ring, many // 2)
                after = moved(row, parts, parts - 1, parts - 2)
                if ring_fits(ring, after):
                    self.assertEqual(ring_number(ring, after), many // 2 + 1)
                    self.assertEqual(ring_at(ring, many // 2 + 1), after)


class TheTestsOwn(unittest.TestCase):
    def test_all_rows_are_those_of_all_products(self):
        found = 0
        for ring in small_rings(77, 6, 2) + tiny_rings()[::9]:
            bounds = [range(low, high + 1) for low, high in zip(ring[2], ring[3])]
            direct = [row for row in itertools.product(*bounds) if ring_fits(ring, row)]
            self.assertEqual(all_ring_rows(ring), direct)
            found += len(direct)
        self.assertGreater(found, 30)

    def test_rounds(self):
        for ring in great_rings() + small_rings(78, 6):
            many, parts = len(ring[1]), rounds_of(ring)
            for j in range(parts):
                self.assertEqual(sorted(ring_walk(ring, j)[0]), list(range(j, many, parts)))
        self.assertEqual([rounds_of(great_ring(1, k, many)) for k, many in ((4, 22), (5, 20), (5, 24))], [2, 5, 1])


if __name__ == "__main__":
    unittest.main()
