import itertools
import random
import unittest

from tellsum.errors import NotTwos
from tellsum.lines import fitted_line
from tellsum.twos import twos_right, twos_wrong
from tests.helpers import (
    all_rows, asked_twice, direct_sums, few_steps, flat, great_line, line_round, refused_alone, tiny_lines, whole_rows,
    with_number)
from tests.wronghelpers import FAR, FARTHEST, great_lines_by_2, off_lines, offs_of, rows_within, with_sums, within


def stretch_has_row(line, a, b):
    """Whether some row within the bounds has all sums from a to b: by the numbers that each place can have."""
    sums, least, greatest = line[1:]
    low, high = least[a], greatest[a]
    for i in range(a, b + 1):
        low, high = max(least[i + 1], sums[i] - high), min(greatest[i + 1], sums[i] - low)
        if low > high:
            return False
    return True


def wrong_so(line, told):
    """Whether it is as 11.3 says, clause by clause."""
    wrong, row, stretches = told
    many = len(line[1])
    if list(wrong) != sorted(set(wrong)) or any(i not in range(many) for i in wrong) or not within(line, row):
        return False
    if any(off and i not in wrong for i, off in enumerate(offs_of(line, row))) or len(stretches) != len(wrong):
        return False
    for number, (a, b) in enumerate(stretches):
        if a not in range(many) or b not in range(many) or a > b or stretch_has_row(line, a, b):
            return False
        if number > 0 and a <= stretches[number - 1][1]:
            return False
    return True


def small_twos(seed, each=30, longest=6):
    return [line for line in off_lines(seed, each, longest) if line[0] == 2]


def all_twos(seed):
    return small_twos(seed) + great_lines_by_2(seed, 2)


def some_wrong(seed):
    found = [(line, twos_wrong(line)) for line in all_twos(seed)]
    return [(line, told) for line, told in found if told[0]]


def fewest_wrong(line):
    return min(sum(off > 0 for off in offs_of(line, row)) for row in rows_within(line))


class Wrong(unittest.TestCase):
    def told(self, line):
        told = asked_twice(self, twos_wrong, line)
        self.assertIs(type(told), tuple)
        self.assertEqual(len(told), 3)
        whole_rows(self, told[0], 1)
        whole_rows(self, told[1], 1)
        self.assertIs(type(told[2]), list)
        whole_rows(self, tuple(told[2]), 2)
        self.assertTrue(wrong_so(line, told), (line, told))
        self.assertEqual(told[0] == (), fitted_line(line)[0] == "row")
        return told

    def test_small_lines(self):
        counts = {}
        for line in small_twos(341, 80) + tiny_lines():
            wrong, row, stretches = self.told(line)
            self.assertEqual(len(wrong), fewest_wrong(line))
            for a, b in stretches:
                self.assertEqual(all_rows((2, line[1][a:b + 1], line[2][a:b + 2], line[3][a:b + 2])), [])
            counts[len(wrong)] = counts.get(len(wrong), 0) + 1
        for many in (0, 1, 2, 3):
            self.assertGreater(counts.get(many, 0), 3, counts)

    def test_by_hand(self):
        self.assertEqual(self.told((2, (3, 5), flat(3), flat(3, 9))), ((), (0, 3, 2), []))
        self.assertEqual(self.told((2, (3,), flat(2), flat(2, 1))), ((0,), (0, 0), [(0, 0)]))
        wrong, row, stretches = self.told((2, (0, 9, 0), flat(4), flat(4, 9)))
        self.assertEqual(len(wrong), 1)
        self.assertEqual(len(self.told((2, (0, 9, 0, 0, 9, 0), flat(7), flat(7, 9)))[0]), 2)
        self.assertEqual(self.told((2, (0, 9, 0, 9, 0), flat(6), flat(6, 9)))[:2], ((2,), (0, 0, 9, 9, 0, 0)))

    def test_none_is_wrong(self):
        for seed, many in itertools.product((1, 2), (2, 3, 11, 24)):
            wrong, row, stretches = self.told(great_line(seed, 2, many))
            self.assertEqual((wrong, stretches), ((), []))

    def test_all_are_wrong(self):
        for many in (2, 3, 10, 24):
            for total in (3, -1, FAR, -FAR):
                wrong, row, stretches = self.told((2, flat(many - 1, total), flat(many), flat(many, 1)))
                self.assertEqual(wrong, tuple(range(many - 1)))
                self.assertEqual(stretches, [(i, i) for i in range(many - 1)])

    def test_each_single_one(self):
        row = tuple((5 * place) % 7 for place in range(24))
        line = line_round(row, 2, flat(24), flat(24))
        for i, step in itertools.product(range(23), (1, -1, 10 ** 59)):
            told = self.told(with_sums(line, with_number(line[1], i, line[1][i] + step)))
            self.assertEqual(told, ((i,), row, [told[2][0]]))

    def test_great_lines(self):
        counts = set()
        for line in great_lines_by_2(342, 6):
            few_steps(twos_wrong, line)
            counts.add(len(self.told(line)[0]))
        self.assertGreater(len(counts), 5)

    def test_not_by_2(self):
        for line in off_lines(343, 2, 3):
            if line[0] != 2:
                refused_alone(self, NotTwos, twos_wrong, line)
        for k in (3, 4, 5):
            refused_alone(self, NotTwos, twos_wrong, great_line(1, k))

    def test_with_the_sums_of_the_told_row_it_fits(self):
        for line in all_twos(344):
            row = twos_wrong(line)[1]
            self.assertEqual(twos_wrong(with_sums(line, direct_sums(row, 2)))[0], ())

    def test_lists_are_the_askers_own(self):
        line = (2, (3,), flat(2), flat(2, 1))
        twos_wrong(line)[2].append((7, 7))
        self.assertEqual(twos_wrong(line)[2], [(0, 0)])


class Right(unittest.TestCase):
    def judged(self, line, told, wanted):
        self.assertIs(asked_twice(self, twos_right, line, told), wanted, (line, told))

    def asked(self, line, told):
        wanted = wrong_so(line, told)
        self.judged(line, told, wanted)
        return wanted

    def test_what_twos_wrong_tells(self):
        for line in all_twos(351) + tiny_lines():
            wrong, row, stretches = twos_wrong(line)
            self.judged(line, (wrong, row, stretches), True)
            self.judged(line, (list(wrong), list(row), tuple(stretches)), True)
            self.assertIs(few_steps(twos_right, line, (wrong, row, stretches)), True)

    def test_all_rows_and_all_wrong(self):
        others = 0
        for line in small_twos(352, 16, 4):
            wrong, row, stretches = twos_wrong(line)
            for other in itertools.islice(rows_within(line), 200):
                off = tuple(i for i, far in enumerate(offs_of(line, other)) if far)
                self.asked(line, (wrong, other, stretches))
                others += self.asked(line, (off, other, stretches)) and other != row
            for count in range(len(line[1]) + 1):
                for other in itertools.combinations(range(len(line[1])), count):
                    self.asked(line, (other, row, stretches))
        self.assertGreater(others, 50)

    def test_all_stretches(self):
        others = 0
        for line in small_twos(353, 16, 4):
            wrong, row, stretches = twos_wrong(line)
            pairs = list(itertools.product(range(-1, len(line[1]) + 1), repeat=2))
            for count in (0, 1, 2):
                for other in itertools.product(pairs, repeat=count):
                    others += self.asked(line, (wrong, row, list(other))) and list(other) != stretches
        self.assertGreater(others, 50)

    def test_wrong_otherwise(self):
        for line, (wrong, row, stretches) in some_wrong(354):
            for number, i in enumerate(wrong):
                self.judged(line, (wrong[:number] + wrong[number + 1:], row, stretches), False)
                self.judged(line, (wrong[:number] + wrong[number + 1:], row, stretches[:-1]), False)
                self.judged(line, (wrong[:number] + (i,) + wrong[number:], row, stretches), False)
                self.judged(line, (wrong[:number] + (i,) + wrong[number:], row, stretches + stretches[-1:]), False)
                for other in (i - len(line[1]), -1, len(line[1]), FAR, -FAR, FARTHEST, -FARTHEST):
                    self.judged(line, (with_number(wrong, number, other), row, stretches), False)
                    self.judged(line, (tuple(sorted(with_number(wrong, number, other))), row, stretches), False)
                    self.judged(line, (tuple(sorted(wrong + (other,))), row, stretches), False)
                for other in range(len(line[1])):
                    if other not in wrong:
                        self.judged(line, (tuple(sorted(with_number(wrong, number, other))), row, stretches), False)
            if len(wrong) > 1:
                self.judged(line, (wrong[::-1], row, stretches), False)
                self.judged(line, (wrong[1:] + wrong[:1], row, stretches), False)

    def test_one_put_in(self):
        for line in all_twos(355):
            wrong, row, stretches = twos_wrong(line)
            for other in range(len(line[1])):
                if other not in wrong:
                    self.judged(line, (tuple(sorted(wrong + (other,))), row, stretches), False)
                    for stretch in ((other, other), (len(line[1]) - 1, len(line[1]) - 1), (0, len(line[1]) - 1)):
                        more = (tuple(sorted(wrong + (other,))), row, stretches + [stretch])
                        self.judged(line, more, False)

    def test_numbers_that_are_none_beside_the_right_ones(self):
        # All clauses hold but that these are numbers of sums.
        line = (2, (3, 3), flat(3), flat(3, 1))
        wrong, row, stretches = twos_wrong(line)
        for other in (-1, 2, FARTHEST):
            self.judged(line, (tuple(sorted(wrong + (other,))), row, stretches + [(5, 5)]), False)
            self.judged(line, (tuple(sorted(wrong + (other,))), row, stretches + [(2, 2)]), False)
            self.judged(line, (tuple(sorted(wrong + (other,))), row, [(-1, -1)] + stretches), False)
        line = (2, (3, 1), flat(3), flat(3, 1))
        self.judged(line, ((0,), (0, 0, 1), [(0, 0)]), True)
        self.judged(line, ((-1, 0), (0, 0, 1), [(0, 0), (1, 1)]), False)

    def test_rows_that_are_none(self):
        for line, (wrong, row, stretches) in some_wrong(356):
            for place in range(len(row)):
                for other in (line[2][place] - 1, line[3][place] + 1, FARTHEST, -FARTHEST):
                    self.judged(line, (wrong, with_number(row, place, other), stretches), False)
                for step in (-1, 1):
                    self.asked(line, (wrong, with_number(row, place, row[place] + step), stretches))
            for other in ((), row[:-1], row[1:], row + (0,), row + row[-1:], row[:1] + row, row + (FARTHEST,),
                          row * 40):
                self.judged(line, (wrong, other, stretches), False)

    def test_stretches_otherwise(self):
        for line, (wrong, row, stretches) in some_wrong(357):
            many = len(line[1])
            self.judged(line, (wrong, row, []), False)
            self.judged(line, (wrong, row, stretches[:-1]), False)
            self.judged(line, (wrong, row, stretches + stretches[-1:]), False)
            self.judged(line, (wrong, row, stretches * 50), len(stretches) == 0)
            for number, (a, b) in enumerate(stretches):
                for pair in ((b, a), (a - 1, b), (a, b + 1), (a + 1, b), (a, b - 1), (-1, b), (a - many, b - many),
                             (a, many), (a, FARTHEST), (-FARTHEST, b), (b + 1, b), (many, many), (0, many - 1),
                             (FARTHEST, FARTHEST)):
                    changed = stretches[:number] + [pair] + stretches[number + 1:]
                    self.asked(line, (wrong, row, changed))
                    if pair[0] > pair[1] or pair[0] < 0 or pair[1] >= many:
                        self.assertFalse(wrong_so(line, (wrong, row, changed)))
            if len(stretches) > 1:
                self.judged(line, (wrong, row, stretches[::-1]), False)
                self.judged(line, (wrong, row, stretches[1:] + stretches[:1]), False)
                # As many as wanted, each without a row, but one twice.
                self.judged(line, (wrong, row, stretches[:1] + stretches[:-1]), False)

    def test_stretches_that_overlap(self):
        line = (2, (0, 9, 0, 0, 9, 0), flat(7), flat(7, 9))
        for stretches, right in (([(0, 2), (3, 5)], True), ([(0, 3), (3, 5)], False), ([(0, 2), (2, 5)], False),
                                 ([(0, 5), (3, 5)], False), ([(0, 2), (0, 5)], False), ([(0, 3), (4, 5)], False)):
            self.judged(line, ((1, 4), flat(7), stretches), right)
        line = (2, (3, 3, 3), flat(4), flat(4, 1))
        for stretches, right in (([(0, 0), (1, 1), (2, 2)], True), ([(0, 1), (1, 1), (2, 2)], False),
                                 ([(0, 0), (1, 2), (2, 2)], False), ([(0, 0), (0, 1), (2, 2)], False),
                                 ([(0, 0), (2, 2), (1, 1)], False), ([(0, 0), (1, 1), (1, 2)], False)):
            self.judged(line, ((0, 1, 2), flat(4), stretches), right)

    def test_a_stretch_that_some_row_has(self):
        for line, (wrong, row, stretches) in some_wrong(358):
            chance = random.Random(len(line[1]))
            for number in range(len(stretches)):
                for turn in range(6):
                    a, b = sorted(chance.choices(range(len(line[1])), k=2))
                    changed = stretches[:number] + [(a, b)] + stretches[number + 1:]
                    self.asked(line, (wrong, row, changed))
                    if stretch_has_row(line, a, b):
                        self.judged(line, (wrong, row, changed), False)


if __name__ == "__main__":
    unittest.main()
