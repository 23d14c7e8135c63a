import itertools
import random
import unittest

from tellsum.errors import Unlike
from tellsum.setsettle import sets_settle, sets_settle_right
from tests.helpers import asked_twice, few_steps, flat, in_lists, refused_alone, whole_rows, with_number
from tests.sethelpers import FAR, FARTHEST, all_settling, drawn_tellings, rank_of, set_rows, settle_so


def cost_rows(seed, many):
    """Costs: none, all alike, unlike, few unlike ones, of sixty figures."""
    chance = random.Random(seed)
    unlike = chance.sample(range(50), many)
    return [
        flat(many), flat(many, 3), flat(many, FAR), tuple(unlike), tuple(range(many)), tuple(range(many, 0, -1)),
        tuple(chance.randint(0, 1) for place in range(many)), tuple(chance.randint(0, 2) for place in range(many)),
        tuple(chance.randint(0, FAR) for place in range(many)),
        tuple(chance.randint(FAR - 2, FAR) for p in range(many))]


class Settle(unittest.TestCase):
    def judged(self, telling, costs, settling):
        told = asked_twice(self, sets_settle, telling, costs)
        self.assertIs(type(told), tuple)
        self.assertEqual(len(told), 2)
        whole_rows(self, told[0], 1)
        whole_rows(self, told[1], 2)
        self.assertTrue(settle_so(telling, costs, settling, told), (telling, costs, told))
        self.assertIs(sets_settle_right(telling, costs, told), True)
        return told

    def test_by_all_sets_of_places(self):
        counts = set()
        for telling in drawn_tellings(241, 2, 9):
            many = telling[0]
            settling = all_settling(*telling[:2])
            for costs in cost_rows(241 + many, many):
                told = self.judged(telling, costs, settling)
                counts.add((many, len(told[0])))
                self.assertEqual(self.judged(telling, list(costs), settling), told)
        for many in range(2, 8):
            for count in {0, 1, many - 1}:
                self.assertIn((many, count), counts)

    def test_all_small_costs(self):
        for telling in drawn_tellings(242, 0, 9):
            if telling[0] <= 4:
                settling = all_settling(*telling[:2])
                for costs in itertools.product(range(3), repeat=telling[0]):
                    self.judged(telling, costs, settling)

    def test_the_sums_are_left_aside(self):
        # Also where no row at all has them.
        for sums in ((4, 4), (4, 5), (FAR, -FAR)):
            telling = (3, ((0, 1), (0, 1)), sums)
            self.assertEqual(sets_settle(telling, (1, 2, 3))[0], (0, 2))
            self.assertEqual(sets_settle(telling, (2, 1, 0))[0], (1, 2))

    def test_by_hand(self):
        self.assertEqual(sets_settle((1, ((0,),), (7,)), (5,)), ((), ()))
        self.assertEqual(sets_settle((3, ((0, 1), (1, 2), (0, 2)), (1, 1, 1)), (5, 6, 7)), ((), ()))
        places, moves = sets_settle((2, ((0, 1),), (7,)), (5, 4))
        self.assertEqual(places, (1,))
        self.assertEqual(moves[0][0], -moves[0][1])
        # The place that no set has settles nothing but itself.
        self.assertEqual(sets_settle((3, ((0, 1),), (7,)), (5, 4, 9))[0], (1, 2))
        self.assertEqual(sets_settle((4, ((0, 1, 2, 3),), (7,)), (5, 4, 9, 4))[0], (0, 1, 3))

    def test_nothing_to_settle(self):
        for telling in drawn_tellings(243, 3, 9):
            if rank_of(set_rows(*telling[:2])) == telling[0]:
                for costs in cost_rows(243, telling[0]):
                    self.assertEqual(sets_settle(telling, costs), ((), ()))

    def test_unlike(self):
        for telling in drawn_tellings(244, 0, 9):
            many = telling[0]
            for other in (0, 1, many - 1, many + 1, 2 * many, 40):
                if other != many:
                    refused_alone(self, Unlike, sets_settle, telling, flat(other))
                    refused_alone(self, Unlike, sets_settle, telling, [1] * other)

    def test_few_steps(self):
        for telling in drawn_tellings(245, 2, FAR // 7):
            costs = cost_rows(245, telling[0])[8]
            told = few_steps(sets_settle, telling, costs)
            self.assertIs(few_steps(sets_settle_right, telling, costs, told), True)


class Right(unittest.TestCase):
    def judged(self, telling, costs, told, wanted):
        self.assertIs(asked_twice(self, sets_settle_right, telling, costs, told), wanted, (telling, costs, told))

    def some(self, seed, each=1):
        """Tellings with something to settle, costs, all that settles and what is told."""
        for telling in drawn_tellings(seed, each, 9):
            settling = all_settling(*telling[:2])
            for number, costs in enumerate(cost_rows(seed, telling[0])):
                told = sets_settle(telling, costs)
                if told[0] and (number + telling[0]) % 3 == 0:
                    yield telling, costs, settling, told

    def test_what_sets_settle_tells(self):
        for telling, costs, settling, (places, moves) in self.some(251, 2):
            self.judged(telling, costs, (places, moves), True)
            self.judged(telling, list(costs), (list(places), in_lists(moves)), True)
        self.judged((1, ((0,),), (7,)), (5,), ((), ()), True)
        self.judged((1, ((0,),), (7,)), (5,), ((0,), ((0,),)), False)
        self.judged((1, ((0,),), (7,)), (5,), ((0,), ((1,),)), False)
        self.judged((1, ((0,),), (7,)), (5,), ((), ((1,),)), False)

    def test_other_moves(self):
        for telling, costs, settling, (places, moves) in self.some(252):
            for number, move in enumerate(moves):
                for times in (-1, 2, 7, FARTHEST):
                    other = tuple(times * part for part in move)
                    self.judged(telling, costs, (places, with_number(moves, number, other)), True)
                self.judged(telling, costs, (places, with_number(moves, number, flat(len(move)))), False)

    def test_other_cheapest_places(self):
        # The places told at other costs, with their moves, are judged by these.
        others = 0
        seen = {True: 0, False: 0}
        for telling in drawn_tellings(253, 1, 9):
            settling = all_settling(*telling[:2])
            rows = cost_rows(253, telling[0])
            for costs, elsewhere in itertools.product(rows[:8], repeat=2):
                told = sets_settle(telling, elsewhere)
                wanted = settle_so(telling, costs, settling, told)
                self.judged(telling, costs, told, wanted)
                seen[wanted] += 1
                others += wanted and told[0] != sets_settle(telling, costs)[0]
        self.assertGreater(min(seen.values()), 200)
        self.assertGreater(others, 100)

    def test_all_places_with_moves_of_their_own(self):
        # Each cheapest or dearer set of as many places, its moves told by costs that make it the cheapest.
        for telling, costs, settling, told in self.some(254):
            for places in settling:
                if len(places) == len(told[0]):
                    own = tuple(0 if place in places else 1 for place in range(telling[0]))
                    moves = sets_settle(telling, own)[1]
                    self.judged(telling, costs, (places, moves), settle_so(telling, costs, settling, (places, moves)))

    def test_any_small_moves(self):
        seen = {True: 0, False: 0}
        for telling, places in (((2, ((0, 1),), (0,)), (0,)), ((3, ((0, 1),), (0,)), (1, 2)),
                                ((3, ((0, 1, 2),), (0,)), (0, 2))):
            settling = all_settling(*telling[:2])
            for costs in itertools.product(range(2), repeat=telling[0]):
                for numbers in itertools.product((-1, 0, 1), repeat=telling[0] * len(places)):
                    moves = tuple(numbers[i:i + telling[0]] for i in range(0, len(numbers), telling[0]))
                    wanted = settle_so(telling, costs, settling, (places, moves))
                    self.judged(telling, costs, (places, moves), wanted)
                    seen[wanted] += 1
        self.assertGreater(seen[True], 20)

    def test_places_that_do_not_settle_or_cost_more(self):
        for telling, costs, settling, (places, moves) in self.some(255):
            for count in range(telling[0] + 1):
                for other in itertools.combinations(range(telling[0]), count):
                    wanted = settle_so(telling, costs, settling, (other, moves))
                    self.judged(telling, costs, (other, moves), wanted)

    def test_places_of_a_wrong_form(self):
        for telling, costs, settling, (places, moves) in self.some(256):
            many = telling[0]
            if len(places) > 1:
                self.judged(telling, costs, (places[::-1], moves[::-1]), False)
                self.judged(telling, costs, (places[1:] + places[:1], moves[1:] + moves[:1]), False)
            for number, place in enumerate(places):
                self.judged(telling, costs, (places[:number] + (place,) + places[number:],
                                             moves[:number] + (moves[number],) + moves[number:]), False)
                self.judged(telling, costs, (places[:number] + places[number + 1:],
                                             moves[:number] + moves[number + 1:]), False)
                for other in (place - many, -1, many, many + place, FAR, -FAR, FARTHEST, -FARTHEST):
                    named = sorted(zip(with_number(places, number, other), moves))
                    self.judged(telling, costs, (with_number(places, number, other), moves), False)
                    self.judged(telling, costs, tuple(zip(*named)), False)
                    self.judged(telling, costs, (tuple(sorted(places + (other,))), moves), False)
            self.judged(telling, costs, ((), ()), False)
            self.judged(telling, costs, (places * 200, moves * 200), False)
            self.judged(telling, costs, (tuple(range(500)), moves), False)

    def test_one_place_more_at_no_cost(self):
        for telling in drawn_tellings(257, 1, 9):
            costs = flat(telling[0])
            places, moves = sets_settle(telling, costs)
            for other in range(telling[0]):
                if other not in places:
                    for move in (flat(telling[0]), *moves[:1]):
                        named = sorted(list(zip(places, moves)) + [(other, move)])
                        self.judged(telling, costs, tuple(zip(*named)), False)

    def test_moves_of_a_wrong_form(self):
        for telling, costs, settling, (places, moves) in self.some(258):
            self.judged(telling, costs, (places, ()), False)
            self.judged(telling, costs, (places, moves[:-1]), False)
            self.judged(telling, costs, (places, moves + moves[:1]), False)
            self.judged(telling, costs, (places, moves + (flat(telling[0]),)), False)
            if len(moves) > 1:
                self.judged(telling, costs, (places, moves[::-1]), False)
                self.judged(telling, costs, (places, moves[1:] + moves[:1]), False)
            for number, move in enumerate(moves):
                for other in (move[:-1], move + (0,), (), (0,) + move, move + (FARTHEST,), move * 100):
                    if len(other) != telling[0]:
                        self.judged(telling, costs, (places, with_number(moves, number, other)), False)

    def test_one_number_of_a_move_otherwise(self):
        for telling, costs, settling, (places, moves) in self.some(259):
            for number, place in itertools.product(range(len(moves)), range(telling[0])):
                for more in (1, -1, FARTHEST):
                    other = with_number(moves[number], place, moves[number][place] + more)
                    changed = with_number(moves, number, other)
                    wanted = settle_so(telling, costs, settling, (places, changed))
                    self.judged(telling, costs, (places, changed), wanted)
                    if any(place in chosen for chosen in telling[1]):
                        self.assertFalse(wanted)

    def test_moves_with_other_moves_added(self):
        # It fits sums of 0 still, but hasn't 0 at another told place.
        for telling, costs, settling, (places, moves) in self.some(260):
            for i, j in itertools.permutations(range(len(moves)), 2):
                for times in (1, -1, FARTHEST):
                    other = tuple(a + times * b for a, b in zip(moves[i], moves[j]))
                    self.judged(telling, costs, (places, with_number(moves, i, other)), False)
                self.judged(telling, costs, (places, with_number(moves, i, moves[j])), False)

    def test_over_a_cheaper_place(self):
        telling = (3, ((0, 1, 2),), (0,))
        told = ((0, 1), ((1, 0, -1), (0, 1, -1)))
        for costs, wanted in (((1, 1, 1), True), ((1, 2, 2), True), ((2, 1, 1), False), ((1, 2, 1), False),
                              ((0, 0, 0), True), ((FAR, FAR, FAR - 1), False), ((FAR, FAR, FAR), True)):
            self.judged(telling, costs, told, wanted)

    def test_costs_below_0_are_none(self):
        telling = (3, ((0, 1, 2),), (0,))
        told = ((0, 1), ((1, 0, -1), (0, 1, -1)))
        for costs in ((-1, 0, 0), (0, -1, 0), (0, 0, -1), (-1, -1, -1), (-FARTHEST, 0, 0)):
            self.judged(telling, costs, told, False)


if __name__ == "__main__":
    unittest.main()
