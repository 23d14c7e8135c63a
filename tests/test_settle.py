import copy
import itertools
import random
import unittest

from tellsum.errors import NoFit, NoPlace, Unlike
from tellsum.settle import free_rests, line_settle, settle_right, settles
from tests.helpers import (
    all_rows, asked_twice, few_steps, fits, flat, great_lines, moved, refused_alone, small_lines, tiny_lines,
    whole_rows, with_number)

FAR = 10 ** 60 - 1
FARTHEST = 10 ** 5000
NO_FIT = (2, (9,), (0, 0), (1, 1))


def fitting_lines(seed, each, longest):
    return [line for line in small_lines(seed, each, longest) if all_rows(line)]


def direct_free(line, rows):
    return [j for j in range(line[0]) if len({row[j] for row in rows}) > 1]


def direct_settles(rows, places):
    """No two unlike rows are alike at all of the places."""
    return len({tuple(row[place] for place in places) for row in rows}) == len(rows)


def all_settling(line, rows):
    """Every set of places that settles."""
    many = len(line[2])
    found = []
    for count in range(many + 1):
        for places in itertools.combinations(range(many), count):
            if direct_settles(rows, places):
                found.append(places)
    return found


def unlike_at(row, other):
    return [place for place in range(len(row)) if row[place] != other[place]]


def right_by_all(line, costs, rows, settling, told):
    """What 4.2 asks, gone through by all rows and all sets of places."""
    places, pairs = told
    if not rows or places not in settling:
        return False
    cost = sum(costs[place] for place in places)
    if any(sum(costs[place] for place in other) < cost for other in settling):
        return False
    if any(tuple(p for p in places if p != place) in settling for place in places):
        return False
    wanted = list(itertools.combinations(direct_free(line, rows), 2))
    if [(pair[0], pair[1]) for pair in pairs] != wanted:
        return False
    for j, later, row, other in pairs:
        if tuple(row) not in rows or tuple(other) not in rows:
            return False
        if unlike_at(row, other) != [p for p in range(len(row)) if p % line[0] in (j, later)]:
            return False
    return True


def cost_rows(line, seed):
    """Costs: none, all alike, unlike, few unlike ones, of sixty figures."""
    chance = random.Random(seed)
    many = len(line[2])
    return [
        flat(many), flat(many, 3), tuple(range(many)), tuple(range(many, 0, -1)),
        tuple(chance.randint(0, 2) for place in range(many)), tuple(chance.randint(0, 99) for place in range(many)),
        tuple(chance.randint(0, FAR) for place in range(many)), flat(many, FAR)]


class FreeRests(unittest.TestCase):
    def test_small_lines(self):
        counts = {}
        for line in small_lines(61, 100) + tiny_lines():
            rows = all_rows(line)
            if not rows:
                refused_alone(self, NoFit, free_rests, line)
                continue
            told = asked_twice(self, free_rests, line)
            self.assertIs(type(told), list)
            self.assertEqual(told, direct_free(line, rows))
            counts[len(told)] = counts.get(len(told), 0) + 1
        self.assertEqual(sorted(counts), [0, 2, 3, 4, 5])

    def test_by_hand(self):
        self.assertEqual(free_rests((3, (2, 2), (0, 1, 0, 0), (9, 1, 9, 9))), [0, 2])
        self.assertEqual(free_rests((2, (5,), (0, 3), (9, 3))), [])
        self.assertEqual(free_rests((5, (5,), flat(5), flat(5, 1))), [])
        self.assertEqual(free_rests((5, (4,), flat(5), flat(5, 1))), [0, 1, 2, 3, 4])
        self.assertEqual(free_rests((5, (0,), flat(5), flat(5, 1))), [])

    def test_the_list_is_the_askers_own(self):
        line = (2, (2,), (0, 0), (2, 2))
        told = free_rests(line)
        told.append(7)
        self.assertEqual(free_rests(line), [0, 1])

    def test_great_lines(self):
        for line in great_lines():
            self.assertEqual(few_steps(free_rests, line), list(range(line[0])))


class Settles(unittest.TestCase):
    def judged(self, line, rows, places):
        told = asked_twice(self, settles, line, places)
        if direct_settles(rows, places):
            self.assertIsNone(told)
            return
        whole_rows(self, told, 2)
        row, other = told
        self.assertNotEqual(row, other)
        self.assertIn(row, rows)
        self.assertIn(other, rows)
        for place in places:
            self.assertEqual(row[place], other[place])

    def test_all_sets_of_places(self):
        for line in fitting_lines(62, 14, 3):
            rows = all_rows(line)
            many = len(line[2])
            for count in range(many + 1):
                for places in itertools.combinations(range(many), count):
                    self.judged(line, rows, places)
                    self.judged(line, rows, list(places))

    def test_in_any_order_and_twice(self):
        chance = random.Random(63)
        for line in fitting_lines(64, 20, 5):
            rows = all_rows(line)
            many = len(line[2])
            for turn in range(12):
                places = [chance.randrange(many) for number in range(chance.randint(0, many + 2))]
                self.judged(line, rows, places)
                self.judged(line, rows, tuple(places))

    def test_by_hand(self):
        line = (3, (3, 3), flat(4), flat(4, 3))
        self.assertIsNone(settles(line, (0, 1)))
        self.assertIsNone(settles(line, (3, 2)))
        self.assertIsNotNone(settles(line, (0, 3)))
        self.assertIsNotNone(settles(line, (1, 1, 1)))
        self.assertIsNotNone(settles(line, ()))
        self.assertIsNone(settles((2, (5,), (0, 3), (9, 3)), []))

    def test_what_is_no_place(self):
        for line in small_lines(65, 10, 4) + [NO_FIT]:
            many = len(line[2])
            for number in (-1, -many, -many - 1, many, many + 1, 24, FAR, -FAR, FARTHEST, -FARTHEST):
                refused_alone(self, NoPlace, settles, line, [number])
                refused_alone(self, NoPlace, settles, line, (0, number))
                refused_alone(self, NoPlace, settles, line, [number, 0])
                refused_alone(self, NoPlace, settles, line, list(range(many)) + [number])

    def test_no_fit(self):
        for line in small_lines(66, 40, 4):
            if not all_rows(line):
                for places in ((), (0,), list(range(len(line[2])))):
                    refused_alone(self, NoFit, settles, line, places)
        refused_alone(self, NoFit, settles, NO_FIT, [1])
        refused_alone(self, NoPlace, settles, NO_FIT, [2])

    def test_great_lines(self):
        for line in great_lines():
            k = line[0]
            for places in ((), (0,), tuple(range(0, 24, k)), tuple(range(k - 1)), tuple(range(24)), (23,)):
                told = few_steps(settles, line, places)
                if len({place % k for place in places}) >= k - 1:
                    self.assertIsNone(told)
                else:
                    row, other = told
                    self.assertTrue(fits(line, row) and fits(line, other))
                    self.assertNotEqual(row, other)
                    self.assertTrue(all(row[place] == other[place] for place in places))


class LineSettle(unittest.TestCase):
    def judged(self, line, costs, rows, settling):
        told = asked_twice(self, line_settle, line, costs)
        self.assertIs(type(told), tuple)
        places, pairs = told
        whole_rows(self, places, 1)
        self.assertIs(type(pairs), list)
        for pair in pairs:
            self.assertIs(type(pair), tuple)
            self.assertEqual(len(pair), 4)
            whole_rows(self, pair[:2], 1)
            whole_rows(self, pair[2:], 2)
        self.assertTrue(right_by_all(line, costs, rows, settling, told), (line, costs, told))
        self.assertIs(settle_right(line, costs, told), True)

    def test_all_sets_of_places(self):
        for line in fitting_lines(71, 20, 3):
            rows = all_rows(line)
            settling = all_settling(line, rows)
            for costs in cost_rows(line, 71):
                self.judged(line, costs, rows, settling)
                self.judged(line, list(costs), rows, settling)

    def test_longer_lines(self):
        for line in fitting_lines(72, 8, 6):
            rows = all_rows(line)
            settling = all_settling(line, rows)
            self.judged(line, cost_rows(line, 72)[5], rows, settling)

    def test_by_hand(self):
        line = (3, (3, 3), flat(4), flat(4, 3))
        self.assertEqual(line_settle(line, (5, 7, 6, 1))[0], (2, 3))
        self.assertEqual(line_settle(line, (5, 0, 6, 9))[0], (0, 1))
        self.assertEqual(line_settle(line, (9, 1, 2, 9))[0], (1, 2))
        self.assertEqual([pair[:2] for pair in line_settle(line, flat(4))[1]], [(0, 1), (0, 2), (1, 2)])

    def test_without_a_free_rest(self):
        for line in ((2, (5,), (0, 3), (9, 3)), (5, (0,), flat(5), flat(5, 9)), (3, (2, 2), flat(4), (9, 9, 0, 0))):
            for costs in cost_rows(line, 73):
                self.assertEqual(line_settle(line, costs), ((), []))

    def test_unlike(self):
        for line in small_lines(74, 8, 3) + [NO_FIT]:
            many = len(line[2])
            for other in (0, 1, many - 1, many + 1, 2 * many, 40):
                refused_alone(self, Unlike, line_settle, line, flat(other))
                refused_alone(self, Unlike, line_settle, line, [1] * other)

    def test_no_fit(self):
        for line in small_lines(75, 40, 3) + [NO_FIT]:
            if not all_rows(line):
                refused_alone(self, NoFit, line_settle, line, flat(len(line[2])))

    def test_lists_are_the_askers_own(self):
        line = (3, (3, 3), flat(4), flat(4, 3))
        told = line_settle(line, (5, 7, 6, 1))
        kept = copy.deepcopy(told)
        told[1].pop()
        told[1].append(9)
        self.assertEqual(line_settle(line, (5, 7, 6, 1)), kept)

    def test_great_lines(self):
        for line in great_lines():
            k = line[0]
            costs = cost_rows(line, 76)[6]
            told = few_steps(line_settle, line, costs)
            self.assertIs(few_steps(settle_right, line, costs, told), True)
            cheapest = sorted(min(costs[j::k]) for j in range(k))
            self.assertEqual(sorted(costs[place] for place in told[0]), cheapest[:-1])
            self.assertEqual([pair[:2] for pair in told[1]], list(itertools.combinations(range(k), 2)))
            for j, later, row, other in told[1]:
                self.assertTrue(fits(line, row) and fits(line, other))
                self.assertEqual(unlike_at(row, other), [p for p in range(24) if p % k in (j, later)])


class SettleRight(unittest.TestCase):
    def judged(self, line, costs, told, wanted):
        self.assertIs(asked_twice(self, settle_right, line, costs, told), wanted, (line, costs, told))

    def some(self, seed, each=12, longest=3):
        """Lines with a free rest, with all their rows and what settles them."""
        for line in fitting_lines(seed, each, longest):
            rows = all_rows(line)
            if len(rows) > 1:
                yield line, rows, all_settling(line, rows)

    def test_any_places(self):
        let_by = 0
        for line, rows, settling in self.some(81):
            many = len(line[2])
            for costs in cost_rows(line, 81)[:6]:
                pairs = line_settle(line, costs)[1]
                for count in range(min(many, line[0]) + 1):
                    for places in itertools.combinations(range(many), count):
                        wanted = right_by_all(line, costs, rows, settling, (places, pairs))
                        self.judged(line, costs, (places, pairs), wanted)
                        let_by += wanted
        self.assertGreater(let_by, 200)

    def test_places_of_a_wrong_form(self):
        for line, rows, settling in self.some(82):
            many = len(line[2])
            for costs in cost_rows(line, 82)[:5]:
                places, pairs = line_settle(line, costs)
                self.judged(line, costs, (places, pairs), True)
                self.judged(line, list(costs), (places, tuple(pairs)), True)
                for number, place in enumerate(places):
                    self.judged(line, costs, (places[:number] + places[number + 1:], pairs), False)
                    self.judged(line, costs, (places[:number] + (place,) + places[number:], pairs), False)
                    for other in (place - many, -1, many, many + place, FAR, -FAR, FARTHEST, -FARTHEST):
                        self.judged(line, costs, (with_number(places, number, other), pairs), False)
                        self.judged(line, costs, (tuple(sorted(places + (other,))), pairs), False)
                if len(places) > 1:
                    self.judged(line, costs, (places[::-1], pairs), False)
                    self.judged(line, costs, (places[1:] + places[:1], pairs), False)
                for other in range(many):
                    if other not in places:
                        self.judged(line, costs, (tuple(sorted(places + (other,))), pairs), False)
                self.judged(line, costs, (tuple(range(many)), pairs), False)
                self.judged(line, costs, ((), pairs), False)

    def test_dearer_by_one(self):
        line = (2, (3, 3), flat(3), flat(3, 3))
        pairs = line_settle(line, (1, 1, 1))[1]
        for costs, right in (((1, 1, 1), (0, 1, 2)), ((2, 1, 2), (1,)), ((1, 2, 2), (0,)), ((2, 2, 1), (2,)),
                             ((0, 0, 1), (0, 1)), ((FAR, FAR - 1, FAR), (1,))):
            for place in range(3):
                self.judged(line, costs, ((place,), pairs), place in right)

    def test_costs_below_nothing(self):
        line = (2, (3, 3), flat(3), flat(3, 3))
        pairs = line_settle(line, (1, 1, 1))[1]
        for costs in ((-1, 1, 1), (1, 1, -1), (-1, -1, -1)):
            for places in ((0,), (1,), (2,), (0, 1), (0, 1, 2)):
                self.judged(line, costs, (places, pairs), False)

    def test_other_rows_in_the_pairs(self):
        let_by = 0
        for line, rows, settling in self.some(83):
            costs = flat(len(line[2]), 2)
            places, pairs = line_settle(line, costs)
            for number, pair in enumerate(pairs):
                for row, other in itertools.product(rows[:9] + rows[-3:], repeat=2):
                    changed = pairs[:number] + [(pair[0], pair[1], row, other)] + pairs[number + 1:]
                    wanted = right_by_all(line, costs, rows, settling, (places, changed))
                    self.judged(line, costs, (places, changed), wanted)
                    in_lists = pairs[:number] + [(pair[0], pair[1], list(row), list(other))] + pairs[number + 1:]
                    self.judged(line, costs, (places, in_lists), wanted)
                    let_by += wanted
        self.assertGreater(let_by, 100)

    def test_rows_that_do_not_fit(self):
        for line, rows, settling in self.some(84, 8, 2):
            k = line[0]
            costs = flat(len(line[2]), 2)
            places, pairs = line_settle(line, costs)
            for number, (j, later, row, other) in enumerate(pairs):
                def changed(one, two):
                    return (places, pairs[:number] + [(j, later, one, two)] + pairs[number + 1:])
                self.judged(line, costs, changed(row, other), True)
                self.judged(line, costs, changed(other, row), True)
                self.judged(line, costs, changed(row, row), False)
                for wrong in ((), row[:-1], row + (0,), row[1:], row + row, flat(30)):
                    self.judged(line, costs, changed(wrong, other), False)
                    self.judged(line, costs, changed(row, wrong), False)
                    self.judged(line, costs, changed(wrong, wrong), False)
                for place in range(len(row)):
                    for more in (1, -1, FAR, FARTHEST):
                        wrong = with_number(row, place, row[place] + more)
                        self.judged(line, costs, changed(wrong, other), False)
                        self.judged(line, costs, changed(other, wrong), False)
                # All sums and unlike just where they should be, but beyond a bound.
                beyond = row
                while fits(line, beyond):
                    beyond = moved(beyond, k, j, later)
                self.judged(line, costs, changed(beyond, other), False)
                self.judged(line, costs, changed(other, beyond), False)

    def test_wrong_pairs(self):
        for line, rows, settling in self.some(85):
            many = len(line[2])
            for costs in cost_rows(line, 85)[:3]:
                places, pairs = line_settle(line, costs)
                self.judged(line, costs, (places, []), False)
                self.judged(line, costs, (places, pairs + pairs), False)
                for number, pair in enumerate(pairs):
                    rest = pairs[:number] + pairs[number + 1:]
                    self.judged(line, costs, (places, rest), False)
                    self.judged(line, costs, (places, pairs[:number] + [pair] + pairs[number:]), False)
                    self.judged(line, costs, (places, pairs + [pair]), False)
                    for j, later in itertools.product((pair[0], pair[1], -1, line[0], many, FAR, -FAR), repeat=2):
                        named = pairs[:number] + [(j, later) + pair[2:]] + pairs[number + 1:]
                        self.judged(line, costs, (places, named), (j, later) == pair[:2])
                    for second in range(number):
                        swapped = list(pairs)
                        swapped[number], swapped[second] = swapped[second], swapped[number]
                        self.judged(line, costs, (places, swapped), False)
                        twice = list(pairs)
                        twice[number] = twice[second]
                        self.judged(line, costs, (places, twice), False)

    def test_a_rest_that_is_not_free(self):
        line = (3, (2, 2), (0, 1, 0, 0), (9, 1, 9, 9))
        costs = (3, 0, 4, 5)
        self.judged(line, costs, ((0,), [(0, 2, (0, 1, 1, 0), (1, 1, 0, 1))]), True)
        self.judged(line, costs, ((1,), [(0, 2, (0, 1, 1, 0), (1, 1, 0, 1))]), False)
        self.judged(line, costs, ((0, 1), [(0, 2, (0, 1, 1, 0), (1, 1, 0, 1))]), False)
        self.judged(line, costs, ((0,), [(0, 1, (0, 1, 1, 0), (1, 1, 0, 1))]), False)
        self.judged(line, costs, ((0,), [(0, 1, (0, 1, 1, 0), (1, 0, 1, 1)),
                                         (0, 2, (0, 1, 1, 0), (1, 1, 0, 1))]), False)

    def test_without_a_free_rest(self):
        for line in ((2, (5,), (0, 3), (9, 3)), (5, (0,), flat(5), flat(5, 9)), (3, (2, 2), flat(4), (9, 9, 0, 0))):
            row = all_rows(line)[0]
            costs = flat(len(line[2]))
            self.judged(line, costs, ((), []), True)
            for place in (0, 1, -1, 24):
                self.judged(line, costs, ((place,), []), False)
            self.judged(line, costs, ((), [(0, 1, row, row)]), False)
            self.judged(line, costs, ((), [(0, 1, row, moved(row, line[0], 0, 1))]), False)

    def test_where_no_row_fits(self):
        seen = 0
        for line in small_lines(86, 40, 3) + [NO_FIT]:
            if not all_rows(line):
                seen += 1
                costs = flat(len(line[2]))
                for places in ((), (0,), (1,), (0, 1)):
                    self.judged(line, costs, (places, []), False)
                    self.judged(line, costs, (places, [(0, 1, line[2], line[3])]), False)
        self.assertGreater(seen, 20)

    def test_great_papers(self):
        for line in great_lines():
            costs = cost_rows(line, 87)[6]
            places, pairs = line_settle(line, costs)
            self.judged(line, costs, (places, pairs), True)
            self.judged(line, with_number(costs, places[0], FARTHEST), (places, pairs), False)
            j, later, row, other = pairs[0]
            for one, two in itertools.permutations((j, later)):
                further = moved(other, line[0], one, two)
                right = fits(line, further) and further != row
                self.judged(line, costs, (places, [(j, later, row, further)] + pairs[1:]), right)
            self.judged(line, costs, (places, [(j, later, row, with_number(other, 0, FARTHEST))] + pairs[1:]), False)


if __name__ == "__main__":
    unittest.main()
