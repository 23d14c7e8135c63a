"""What is promised over the whole program: the files tell the same of one line."""

import importlib
import pathlib
import unittest

from tellsum.desk import Desk
from tellsum.leastchange import line_change
from tellsum.linecounts import line_many
from tellsum.lines import fitted_line
from tellsum.off import line_off
from tellsum.rings import fitted_ring
from tellsum.solve import solved
from tellsum.texts import line_text
from tellsum.twos import twos_wrong
from tests.helpers import direct_sums, few_steps, great_lines, ring_direct_sums, small_lines, small_rings, tiny_lines
from tests.sethelpers import sets_fit
from tests.wronghelpers import FAR, great_off_lines, off_lines, offs_of, small_off_lines, with_sums, within

# What the interface names, file by file.
INTERFACE = {
    "errors": "SumError BadTelling NoFit NoNumber NoPlace NotTwos NoPast NoText NoRow Unlike",
    "sums": "line_sums ring_sums floor_sums set_sums",
    "tellings": "made_line made_ring made_floor made_sets line_holds ring_holds floor_holds sets_hold",
    "lines": "mores_of rest_spans fitted_line",
    "linejudge": "line_right",
    "linecounts": "line_many line_at line_number",
    "lineranges": "line_range sure_places",
    "settle": "free_rests settles line_settle settle_right",
    "rings": "fitted_ring ring_many ring_at ring_number",
    "ringjudge": "ring_right",
    "floors": "balance_of fitted_floor",
    "floorjudge": "floor_right",
    "floorranges": "floor_range sure_cells",
    "floorsettle": "floor_settle floor_apart floor_settle_right",
    "solve": "solved solved_right",
    "base": "base_of base_right",
    "setsettle": "sets_settle sets_settle_right",
    "leastchange": "changes_of signs_worth line_change change_right",
    "off": "line_off off_right",
    "twos": "twos_wrong twos_right",
    "book": "SumBook",
    "texts": "row_text line_text read_row read_line",
    "desk": "Desk",
}


def wrong_rows(line):
    """How much is wrong of a line by each that tells of it, and the rows that they tell."""
    total, near, signs = line_change(line)
    far, nearest, way = line_off(line)
    told = [(total, near), (far, nearest)]
    if line[0] == 2:
        wrong, row, stretches = twos_wrong(line)
        told.append((len(wrong), row))
    return told


def all_lines(seed):
    return small_off_lines(seed, 10) + great_off_lines(seed) + small_lines(seed, 20) + great_lines()


def line_as_sets(line):
    k, sums, least, greatest = line
    return (len(least), tuple(tuple(range(i, i + k)) for i in range(len(sums))), sums)


def ring_as_sets(ring):
    k, sums, least, greatest = ring
    many = len(sums)
    return (many, tuple(tuple(sorted((i + j) % many for j in range(k))) for i in range(many)), sums)


class Whole(unittest.TestCase):
    def test_all_names_are_there(self):
        for file, names in INTERFACE.items():
            module = importlib.import_module("tellsum." + file)
            for name in names.split():
                self.assertTrue(callable(getattr(module, name)), (file, name))

    def test_lines_that_fit_and_lines_that_do_not(self):
        seen = {True: 0, False: 0}
        for line in all_lines(391):
            fits = fitted_line(line)[0] == "row"
            self.assertEqual(fits, line_many(line) > 0)
            for much, row in wrong_rows(line):
                self.assertTrue(much == 0 if fits else much > 0)
                self.assertTrue(within(line, row))
                self.assertEqual(not any(offs_of(line, row)), fits)
            seen[fits] += 1
        self.assertGreater(min(seen.values()), 100, seen)

    def test_how_the_three_lie_to_one_another(self):
        for line in all_lines(392):
            total, far = line_change(line)[0], line_off(line)[0]
            self.assertLessEqual(far, total)
            self.assertLessEqual(total, far * len(line[1]))
            if line[0] == 2:
                wrong = len(twos_wrong(line)[0])
                self.assertLessEqual(wrong, total)
                self.assertLessEqual(wrong, len(line[1]) if far else 0)

    def test_with_the_sums_of_the_told_row_some_row_fits(self):
        for line in all_lines(393):
            for much, row in wrong_rows(line):
                other = with_sums(line, direct_sums(row, line[0]))
                self.assertEqual(fitted_line(other)[0], "row")
                self.assertGreater(line_many(other), 0)
                self.assertEqual({much for much, row in wrong_rows(other)}, {0})

    def test_a_line_told_as_sets(self):
        # Bounds left aside some row of whole numbers has all sums of a line.
        for line in off_lines(394, 8, 5) + small_lines(394, 20) + tiny_lines()[:200]:
            if len(line[2]) <= 7:
                wide = (line[0], line[1], (-FAR,) * len(line[2]), (FAR,) * len(line[2]))
                self.assertEqual(fitted_line(wide)[0], "row")
                word, row = solved(line_as_sets(line))
                self.assertEqual(word, "row")
                self.assertEqual(direct_sums(row, line[0]), line[1])

    def test_a_ring_told_as_sets(self):
        seen = {"row": 0, "none": 0}
        for ring in small_rings(395, 40, 2):
            if len(ring[1]) <= 7:
                wide = (ring[0], ring[1], (-FAR,) * len(ring[1]), (FAR,) * len(ring[1]))
                word, row = solved(ring_as_sets(ring))
                self.assertEqual(word == "row", fitted_ring(wide)[0] == "row")
                if word == "row":
                    self.assertEqual(ring_direct_sums(row, ring[0]), ring[1])
                    self.assertTrue(sets_fit(ring_as_sets(ring), row))
                seen[word] += 1
        self.assertGreater(min(seen.values()), 10, seen)

    def test_the_desk_answers_as_the_functions_do(self):
        desk = Desk()
        for line in off_lines(396, 4, 5) + great_off_lines(396):
            self.assertEqual(desk.say("line " + line_text(line)), "ok")
            for word, much in zip(("change", "off", "wrong"), [much for much, row in wrong_rows(line)]):
                self.assertEqual(few_steps(desk.say, word), str(much))
            self.assertEqual(desk.say("many"), str(line_many(line)))
            self.assertEqual(desk.say("show"), line_text(line))

    def test_nothing_else_lies_in_the_package(self):
        folder = pathlib.Path(__file__).resolve().parent.parent / "tellsum"
        names = sorted(path.stem for path in folder.iterdir() if path.name != "__pycache__")
        self.assertEqual(names, sorted(list(INTERFACE) + ["__init__", "heads"]))


if __name__ == "__main__":
    unittest.main()
