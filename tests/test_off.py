import itertools
import unittest

from tellsum.lines import fitted_line
from tellsum.off import line_off, off_right
from tests.helpers import asked_twice, direct_sums, few_steps, flat, whole_rows, with_number
from tests.wronghelpers import (
    FAR, FARTHEST, great_off_lines, off_lines, offs_of, one_off_lines, one_sum_lines, rows_within, single_row_lines,
    small_off_lines, with_sums, within)


def walked(line, step):
    """From which cut a step leads, to which one, and what it asks; None where it is no step."""
    k, sums, least, greatest = line
    kind, i, up = step
    if kind == "sum" and i in range(len(sums)):
        return (i, i + k, sums[i]) if up else (i + k, i, -sums[i])
    if kind == "place" and i in range(len(least)):
        return (i, i + 1, least[i]) if up else (i + 1, i, -greatest[i])
    return None


def way_so(line, far, way):
    """Whether it is a closed way that asks too much for all sums to be nearer, walked step by step."""
    if not way:
        return False
    asked = sums = 0
    cut = None
    for step in way:
        walk = walked(line, step)
        if walk is None or cut is not None and walk[0] != cut:
            return False
        cut = walk[1]
        asked += walk[2]
        sums += step[0] == "sum"
    return cut == walked(line, way[0])[0] and asked > (far - 1) * sums


def off_so(line, told):
    far, row, way = told
    if not within(line, row) or max(offs_of(line, row)) > far:
        return False
    if far == 0:
        return way is None
    return way is not None and way_so(line, far, way)


def wrong_lines(seed, each=8, longest=5):
    """Lines that no row fits, with what line_off tells of them."""
    found = [(line, line_off(line)) for line in off_lines(seed, each, longest) + great_off_lines(seed)]
    return [(line, told) for line, told in found if told[0] > 0]


def sums_in(way):
    return len([step for step in way if step[0] == "sum"])


class Off(unittest.TestCase):
    def told(self, line):
        told = asked_twice(self, line_off, line)
        self.assertIs(type(told), tuple)
        self.assertEqual(len(told), 3)
        far, row, way = told
        whole_rows(self, far, 0)
        whole_rows(self, row, 1)
        if way is not None:
            self.assertIs(type(way), list)
            self.assertLessEqual(len(way), 200)
            for step in way:
                self.assertEqual((type(step), len(step)), (tuple, 3))
                self.assertEqual([type(part) for part in step], [str, int, bool])
        self.assertTrue(off_so(line, told), (line, told))
        self.assertEqual(far == 0, fitted_line(line)[0] == "row")
        return told

    def test_small_lines(self):
        counts = {}
        for line in small_off_lines(311, 30, 6):
            far, row, way = self.told(line)
            self.assertEqual(far, min(max(offs_of(line, row)) for row in rows_within(line)))
            counts[way and sums_in(way)] = counts.get(way and sums_in(way), 0) + 1
        # Ways of one sum alone, of two, of more.
        for many in (None, 1, 2, 3):
            self.assertGreater(counts.get(many, 0), 5, counts)

    def test_by_hand(self):
        self.assertEqual(self.told((2, (3,), (0, 0), (1, 1)))[:2], (1, (1, 1)))
        self.assertEqual(self.told((2, (-3,), (0, 0), (1, 1)))[:2], (3, (0, 0)))
        # The two sums have the middle place in common: each gives way by half of 9, rounded up.
        self.assertEqual(self.told((2, (0, 9), (0, 0, 0), (0, 9, 0)))[0], 5)
        self.assertEqual(self.told((2, (0, 10), (0, 0, 0), (0, 9, 0)))[0], 5)
        self.assertEqual(self.told((2, (0, 11), (0, 0, 0), (0, 9, 0)))[0], 6)
        self.assertEqual(self.told((2, (9, 0, 9), flat(4), flat(4, 9)))[0], 0)

    def test_parts_of_many_sums(self):
        # Places are wide but the ends: what is wrong goes to all sums of the line, so much for each.
        for many in range(2, 24):
            for wrong in (1, many - 2, many - 1, many, 10 ** 59):
                least = (0,) + flat(many - 1, -FAR) + (0,)
                line = (2, flat(many - 1) + (wrong,), least, tuple(-number for number in least))
                far = self.told(line)[0]
                self.assertEqual(far, -(-wrong // many))

    def test_one_sum(self):
        for line, wanted in one_sum_lines():
            self.assertEqual(self.told(line)[0], wanted)

    def test_both_bounds_alike(self):
        for line, row in single_row_lines(282):
            self.assertEqual(self.told(line)[:2], (max(offs_of(line, row)), row))

    def test_great_lines(self):
        for line in great_off_lines(313, 3):
            few_steps(line_off, line)
            self.told(line)

    def test_one_sum_otherwise_in_a_long_line(self):
        for line, wanted in one_off_lines():
            self.assertEqual(self.told(line)[0], wanted)

    def test_with_the_sums_of_the_told_row_it_fits(self):
        for line in small_off_lines(314, 3) + great_off_lines(315):
            row = line_off(line)[1]
            self.assertEqual(line_off(with_sums(line, direct_sums(row, line[0])))[0], 0)

    def test_lists_are_the_askers_own(self):
        line = (2, (3,), (0, 0), (1, 1))
        told = line_off(line)
        kept = list(told[2])
        told[2].append(7)
        self.assertEqual(line_off(line)[2], kept)


class Right(unittest.TestCase):
    def judged(self, line, told, wanted):
        self.assertIs(asked_twice(self, off_right, line, told), wanted, (line, told))

    def asked(self, line, told):
        wanted = off_so(line, told)
        self.judged(line, told, wanted)
        return wanted

    def test_what_line_off_tells(self):
        for line in small_off_lines(321, 6) + great_off_lines(322):
            far, row, way = line_off(line)
            self.judged(line, (far, row, way), True)
            self.judged(line, (far, list(row), way and tuple(way)), True)
            self.assertIs(few_steps(off_right, line, (far, row, way)), True)

    def test_all_rows(self):
        others = 0
        for line in off_lines(323, 4, 3, 300):
            far, row, way = line_off(line)
            for other in rows_within(line):
                wanted = self.asked(line, (far, other, way))
                self.assertEqual(wanted, max(offs_of(line, other)) <= far)
                others += wanted and other != row
        self.assertGreater(others, 100)

    def test_far_otherwise(self):
        for line in small_off_lines(324, 4) + great_off_lines(325):
            far, row, way = line_off(line)
            for other in (far + 1, far - 1, -far - 1, -1, 2 * far + 2, FARTHEST, -FARTHEST):
                self.judged(line, (other, row, way), False)
                self.judged(line, (other, row, None), False)
                self.judged(line, (other, row, [("place", 0, True), ("place", 0, False)]), False)

    def test_a_row_that_is_further_by_one(self):
        for line, (far, row, way) in wrong_lines(326):
            self.judged(line, (far - 1, row, way), False)
            self.judged(line, (far - 1, row, None), False)

    def test_beyond_the_bounds(self):
        for line, (far, row, way) in wrong_lines(327):
            for place in range(len(row)):
                for other in (line[2][place] - 1, line[3][place] + 1, FARTHEST, -FARTHEST):
                    self.judged(line, (far, with_number(row, place, other), way), False)
        line = (2, (3, 3), (0, 0, 0), (1, 1, 1))
        self.judged(line, (0, (1, 2, 1), None), False)
        self.judged(line, (1, (1, 1, 2), line_off(line)[2]), False)

    def test_one_number_otherwise_more_or_fewer(self):
        seen = {True: 0, False: 0}
        for line, (far, row, way) in wrong_lines(328):
            for place, step in itertools.product(range(len(row)), (-1, 1)):
                seen[self.asked(line, (far, with_number(row, place, row[place] + step), way))] += 1
            for other in ((), row[:-1], row[1:], row + (0,), row + row[-1:], row[:1] + row, row + (FARTHEST,),
                          row * 40):
                self.judged(line, (far, other, way), False)
        self.assertGreater(min(seen.values()), 50)

    def test_none_where_far_is_not_0(self):
        for line, (far, row, way) in wrong_lines(329):
            self.judged(line, (far, row, None), False)
            self.judged(line, (far, row, []), False)
            self.judged(line, (far, row, ()), False)

    def test_a_way_where_far_is_0(self):
        for line in small_off_lines(330, 5):
            far, row, way = line_off(line)
            if far == 0:
                for other in ([], [("place", 0, True), ("place", 0, False)], [("sum", 0, True), ("sum", 0, False)],
                              [("sum", 0, True)] + [("place", i, False) for i in range(line[0] - 1, -1, -1)]):
                    self.judged(line, (0, row, other), False)

    def test_begun_elsewhere_and_gone_twice(self):
        for line, (far, row, way) in wrong_lines(331):
            for start in range(len(way)):
                self.judged(line, (far, row, way[start:] + way[:start]), True)
            self.judged(line, (far, row, way + way), True)
            self.judged(line, (far, row, way[1:] + way + way[:1]), True)
            self.judged(line, (far, row, way * (200 // len(way))), True)

    def test_another_way(self):
        # A detour to and fro over a place or a sum costs what its bounds are apart, or a sum's step twice.
        seen = {True: 0, False: 0}
        for line, (far, row, way) in wrong_lines(332):
            for number, step in enumerate(way):
                start = walked(line, step)[0]
                for kind, i, up in itertools.product(("place", "sum"), range(len(line[2])), (True, False)):
                    detour = [(kind, i, up), (kind, i, not up)]
                    if walked(line, detour[0]) and walked(line, detour[0])[0] == start:
                        seen[self.asked(line, (far, row, way[:number] + detour + way[number:]))] += 1
        self.assertGreater(min(seen.values()), 30, seen)

    def test_all_short_ways(self):
        let_by = 0
        for line, (far, row, way) in wrong_lines(333, 4, 1):
            if line[0] > 3 or len(line[2]) > 4:
                continue
            steps = list(itertools.product(("place",), range(len(line[2])), (True, False)))
            steps += list(itertools.product(("sum",), range(len(line[1])), (True, False)))
            for count in (1, 2, 3):
                for other in itertools.product(steps, repeat=count):
                    let_by += self.asked(line, (far, row, list(other)))
        self.assertGreater(let_by, 10)

    def test_a_way_that_is_not_closed(self):
        for line, (far, row, way) in wrong_lines(334):
            for number in range(len(way)):
                self.judged(line, (far, row, way[:number] + way[number + 1:]), False)
                kind, i, up = way[number]
                turned = way[:number] + [(kind, i, not up)] + way[number + 1:]
                self.judged(line, (far, row, turned), False)
            self.judged(line, (far, row, way[:1]), False)
            # Each step leads to the next one, but the last one not to the first.
            self.judged(line, (far, row, way + way[:1]), False)

    def test_exchanged_steps(self):
        for line, (far, row, way) in wrong_lines(335):
            for i, j in itertools.combinations(range(len(way)), 2):
                other = list(way)
                other[i], other[j] = way[j], way[i]
                self.asked(line, (far, row, other))
            self.asked(line, (far, row, way[::-1]))

    def test_steps_of_another_word(self):
        for line, (far, row, way) in wrong_lines(336):
            for number, (kind, i, up) in enumerate(way):
                for word in ("", "Sum", "sums", "places", "row", "cut", "sum ", " place",
                             "place" if kind == "sum" else "sum"):
                    other = way[:number] + [(word, i, up)] + way[number + 1:]
                    self.judged(line, (far, row, other), False)
                    self.judged(line, (far, row, other + other), False)

    def test_steps_of_no_sum_or_no_place(self):
        for line, (far, row, way) in wrong_lines(337):
            for number, (kind, i, up) in enumerate(way):
                many = len(line[1]) if kind == "sum" else len(line[2])
                for wrong in (-1, i - many, -many, many, many + i, FAR, -FAR, FARTHEST, -FARTHEST):
                    self.judged(line, (far, row, way[:number] + [(kind, wrong, up)] + way[number + 1:]), False)
            for kind, wrong in (("sum", -1), ("place", -1), ("sum", len(line[1])), ("place", len(line[2]))):
                detour = [(kind, wrong, True), (kind, wrong, False)]
                for number in range(len(way) + 1):
                    self.judged(line, (far, row, way[:number] + detour + way[number:]), False)
                    self.judged(line, (far, row, way[:number] + detour[::-1] + way[number:]), False)
        # Beyond the ends such a detour would lead back and ask nothing.
        line = (2, (3,), (1, 0), (1, 0))
        for kind, wrong, up in itertools.product(("place", "sum"), (-2, -1, 1, 2), (True, False)):
            detour = [(kind, wrong, up), (kind, wrong, not up)]
            way = [("sum", 0, True), ("place", 1, False), ("place", 0, False)]
            self.judged(line, (2, (1, 0), way), True)
            for number in range(4):
                told = (2, (1, 0), way[:number] + detour + way[number:])
                self.judged(line, told, off_so(line, told))

    def test_asks_too_little(self):
        # The way of one line is judged by lines with other sums.
        seen = {True: 0, False: 0}
        for line, (far, row, way) in wrong_lines(338):
            for step in (-2, -1, 1, 2):
                for i in range(len(line[1])):
                    other = with_sums(line, with_number(line[1], i, line[1][i] + step))
                    seen[self.asked(other, (far, row, way))] += 1
        self.assertGreater(min(seen.values()), 50, seen)
        # Just (far - 1) times its sums is too little by one.
        way = [("sum", 0, True), ("place", 1, False), ("place", 0, False)]
        self.judged((2, (3,), (0, 0), (1, 1)), (2, (1, 1), way), False)
        self.judged((2, (3,), (0, 0), (1, 1)), (1, (1, 1), way), True)
        # No sum is on this way: it asks 0, or less.
        self.judged((2, (3,), (0, 0), (0, 1)), (2, (0, 1), [("place", 0, True), ("place", 0, False)]), False)


if __name__ == "__main__":
    unittest.main()
