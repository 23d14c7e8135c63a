import itertools
import random
import unittest

from tellsum.book import SumBook
from tellsum.errors import NoPast, NoPlace
from tests.helpers import asked_twice, few_steps, refused_alone, whole_rows
from tests.sethelpers import rank_of

FAR = 10 ** 60 - 1
FARTHEST = 10 ** 5000


def stretches_of(many):
    return [(a, b) for a in range(many) for b in range(a, many)]


def stretch_row(many, a, b):
    return [int(a <= place <= b) for place in range(many)]


def tells(many, kept, a, b):
    """Whether the kept sums tell the stretch's: it adds nothing of its own to them."""
    rows = [stretch_row(many, first, last) for first, last, total in kept]
    return rank_of(rows + [stretch_row(many, a, b)]) == rank_of(rows)


def signs_so(case, many, kept, a, b, signs):
    """The signs rise, have each number once at most, and the kept stretches with them are just this one."""
    case.assertIs(type(signs), list)
    whole_rows(case, tuple(signs), 2)
    numbers = [number for number, sign in signs]
    case.assertEqual(numbers, sorted(set(numbers)))
    case.assertTrue(all(number in range(len(kept)) for number in numbers))
    case.assertTrue(all(sign in (1, -1) for number, sign in signs))
    added = [0] * many
    for number, sign in signs:
        for place in range(kept[number][0], kept[number][1] + 1):
            added[place] += sign
    case.assertEqual(added, stretch_row(many, a, b))


def total_of(kept, signs):
    return sum(kept[number][2] * sign for number, sign in signs)


class BookCase(unittest.TestCase):
    """A book beside a list of what it should keep."""

    def tell(self, book, many, kept, a, b, total):
        told = book.tell_sum(a, b, total)
        self.assertIs(type(told), tuple)
        self.assertEqual(len(told), 2)
        if not tells(many, kept, a, b):
            self.assertEqual(told, ("new", len(kept)))
            kept.append((a, b, total))
            return "new"
        signs_so(self, many, kept, a, b, told[1])
        self.assertEqual(told[0], "known" if total_of(kept, told[1]) == total else "clash")
        return told[0]

    def ask(self, book, many, kept, a, b):
        told = asked_twice(self, book.ask_sum, a, b)
        self.assertIs(type(told), tuple)
        if not tells(many, kept, a, b):
            self.assertEqual(told, ("free", None))
            return
        self.assertEqual((told[0], len(told)), ("sum", 3))
        signs_so(self, many, kept, a, b, told[2])
        self.assertEqual(told[1], total_of(kept, told[2]))

    def look(self, book, many, kept):
        self.assertEqual(book.can_come(), many - len(kept))
        known = [stretch for stretch in stretches_of(many) if tells(many, kept, *stretch)]
        self.assertEqual(book.known_many(), len(known))


class Told(BookCase):
    def test_drawn_rows(self):
        chance = random.Random(361)
        seen = {"new": 0, "known": 0, "clash": 0}
        for turn in range(60):
            many = 1 + turn % 8
            far = chance.choice((3, FAR // 24))
            row = [chance.randint(-far, far) for place in range(many)]
            book, kept = SumBook(many), []
            self.look(book, many, kept)
            for telling in range(12):
                a, b = chance.choice(stretches_of(many))
                total = sum(row[a:b + 1]) + chance.choice((0, 0, 1, -1))
                seen[self.tell(book, many, kept, a, b, total)] += 1
                for stretch in chance.choices(stretches_of(many), k=4):
                    self.ask(book, many, kept, *stretch)
                self.look(book, many, kept)
        self.assertGreater(min(seen.values()), 50, seen)

    def test_many_places(self):
        chance = random.Random(362)
        for many in (9, 16, 23, 24):
            row = [chance.randint(-FAR // 24, FAR // 24) for place in range(many)]
            book, kept = SumBook(many), []
            for telling in range(60):
                a, b = chance.choice(stretches_of(many))
                self.tell(book, many, kept, a, b, sum(row[a:b + 1]) + (telling % 5 == 4))
                self.ask(book, many, kept, *chance.choice(stretches_of(many)))
            self.assertGreater(len(kept), many // 2)
            self.assertEqual(book.can_come(), many - len(kept))

    def test_all_tellings_of_small_books(self):
        for many, count in ((1, 2), (2, 3), (3, 3)):
            for chosen in itertools.product(stretches_of(many), repeat=count):
                for offs in itertools.product((0, 1), repeat=count):
                    book, kept = SumBook(many), []
                    for (a, b), off in zip(chosen, offs):
                        self.tell(book, many, kept, a, b, off + b - a)
                    self.look(book, many, kept)
                    for stretch in stretches_of(many):
                        self.ask(book, many, kept, *stretch)

    def test_by_hand(self):
        book = SumBook(5)
        self.assertEqual(book.ask_sum(0, 4), ("free", None))
        self.assertEqual(book.known_many(), 0)
        self.assertEqual(book.tell_sum(0, 4, 20), ("new", 0))
        self.assertEqual(book.tell_sum(0, 1, 7), ("new", 1))
        self.assertEqual(book.ask_sum(2, 4), ("sum", 13, [(0, 1), (1, -1)]))
        self.assertEqual(book.tell_sum(2, 4, 13), ("known", [(0, 1), (1, -1)]))
        self.assertEqual(book.tell_sum(2, 4, 12), ("clash", [(0, 1), (1, -1)]))
        self.assertEqual(book.tell_sum(2, 2, -3), ("new", 2))
        self.assertEqual(book.ask_sum(3, 4), ("sum", 16, [(0, 1), (1, -1), (2, -1)]))
        self.assertEqual(book.tell_sum(0, 4, 20), ("known", [(0, 1)]))
        self.assertEqual(book.ask_sum(0, 0), ("free", None))
        self.assertEqual(book.can_come(), 2)
        # All stretches between the cuts 0, 2, 3 and 5.
        self.assertEqual(book.known_many(), 6)

    def test_all_is_known_in_the_end(self):
        chance = random.Random(363)
        for many in range(1, 25):
            for order in (list(range(many)), list(range(many))[::-1], chance.sample(range(many), many)):
                book = SumBook(many)
                for number, place in enumerate(order):
                    self.assertEqual(book.tell_sum(place, place, FAR - place), ("new", number))
                self.assertEqual(book.can_come(), 0)
                self.assertEqual(few_steps(book.known_many), many * (many + 1) // 2)
                told = few_steps(book.ask_sum, 0, many - 1)
                self.assertEqual(told, ("sum", sum(FAR - place for place in range(many)),
                                        [(i, 1) for i in range(many)]))
                self.assertEqual(few_steps(book.tell_sum, 0, many - 1, 0)[0], "clash")

    def test_lists_are_the_askers_own(self):
        book = SumBook(2)
        book.tell_sum(0, 1, 5)
        for ask in (lambda: book.ask_sum(0, 1)[2], lambda: book.tell_sum(0, 1, 5)[1],
                    lambda: book.tell_sum(0, 1, 6)[1]):
            ask().append(9)
            self.assertEqual(ask(), [(0, 1)])
        self.assertEqual(book.can_come(), 1)

    def test_two_books_side_by_side(self):
        first, second = SumBook(3), SumBook(4)
        first.tell_sum(0, 2, 5)
        self.assertEqual(second.ask_sum(0, 2), ("free", None))
        self.assertEqual(second.tell_sum(0, 2, 6), ("new", 0))
        second.tell_sum(3, 3, 1)
        self.assertEqual((first.can_come(), second.can_come()), (2, 2))
        self.assertEqual((first.known_many(), second.known_many()), (1, 3))
        first.take_back()
        self.assertEqual(second.ask_sum(0, 2), ("sum", 6, [(0, 1)]))
        self.assertEqual(first.ask_sum(0, 2), ("free", None))


class TakenBack(BookCase):
    def test_down_to_none_and_on_otherwise(self):
        chance = random.Random(364)
        for turn in range(40):
            many = 1 + turn % 7
            book, kept = SumBook(many), []
            for step in range(24):
                if chance.randint(0, 2) == 0:
                    if not kept:
                        refused_alone(self, NoPast, book.take_back)
                    else:
                        self.assertIsNone(book.take_back())
                        kept.pop()
                else:
                    self.tell(book, many, kept, *chance.choice(stretches_of(many)), chance.randint(-2, 2))
                self.look(book, many, kept)
                self.ask(book, many, kept, *chance.choice(stretches_of(many)))
            while kept:
                self.assertIsNone(book.take_back())
                kept.pop()
                self.look(book, many, kept)
            refused_alone(self, NoPast, book.take_back)
            self.look(book, many, kept)
            self.assertEqual(self.tell(book, many, kept, 0, many - 1, 4), "new")

    def test_only_what_was_kept(self):
        book = SumBook(3)
        refused_alone(self, NoPast, book.take_back)
        book.tell_sum(0, 2, 5)
        book.tell_sum(0, 2, 5)
        book.tell_sum(0, 2, 6)
        book.take_back()
        self.assertEqual(book.ask_sum(0, 2), ("free", None))
        refused_alone(self, NoPast, book.take_back)
        self.assertEqual(book.tell_sum(0, 2, 7), ("new", 0))
        self.assertEqual(book.ask_sum(0, 2), ("sum", 7, [(0, 1)]))


class Refused(BookCase):
    def test_no_stretch(self):
        for many in (1, 2, 5, 24):
            book, kept = SumBook(many), []
            self.tell(book, many, kept, 0, 0, 3)
            ends = (-FARTHEST, -FAR, -many - 1, -many, -1, 0, many - 1, many, many + 1, 24, FAR, FARTHEST)
            for a, b in itertools.product(ends, repeat=2):
                if not 0 <= a <= b < many:
                    refused_alone(self, NoPlace, book.ask_sum, a, b)
                    refused_alone(self, NoPlace, book.tell_sum, a, b, 3)
                    refused_alone(self, NoPlace, book.tell_sum, a, b, FAR)
            for a in range(many):
                for b in range(a):
                    refused_alone(self, NoPlace, book.ask_sum, a, b)
                    refused_alone(self, NoPlace, book.tell_sum, a, b, 3)
            self.assertEqual((book.can_come(), book.known_many()), (many - 1, 1))
            self.assertEqual(book.ask_sum(0, 0), ("sum", 3, [(0, 1)]))
            book.take_back()
            refused_alone(self, NoPast, book.take_back)


if __name__ == "__main__":
    unittest.main()
