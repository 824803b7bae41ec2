"""[7]: turn, wedges, points, ties, triangles."""

import unittest
from itertools import combinations, permutations, product

from levelskins.grids import cells, faces_of, round_of
from levelskins.mesh import points, ties, triangles, turn, wedges, wedges_of
from tests.samples import asked, assert_rising, few_grids, sample_grids


def turn_by_words(wedge):
    """The determinant by the sum over all orders."""
    rows = [[number - start for number, start in zip(point, wedge[0])] for point in wedge[1:]]
    total = 0
    for order in permutations(range(3)):
        odd = sum(one > other for one, other in combinations(order, 2)) % 2
        total += (-1) ** odd * rows[0][order[0]] * rows[1][order[1]] * rows[2][order[2]]
    return total


def wedges_by_words(grid, cell):
    """Each two points next to one another going round, in the order whose turn is above 0."""
    low, side = cell
    m = tuple(number + side // 2 for number in low)
    told = []
    for face in faces_of(grid, cell):
        start, reach, across = face
        f = tuple(number + (reach // 2 if axis != across else 0) for axis, number in enumerate(start))
        ring = round_of(grid, face)
        for at, p in enumerate(ring):
            q = ring[at - 1]
            told += [(m, f, *order) for order in ((p, q), (q, p)) if turn_by_words((m, f, *order)) > 0]
    return tuple(sorted(told))


class Turn(unittest.TestCase):
    def test_its_sign(self):
        origin, x, y, z = (0, 0, 0), (1, 0, 0), (0, 2, 0), (0, 0, 3)
        self.assertEqual(turn((origin, x, y, z)), 6)
        self.assertEqual(turn((origin, y, x, z)), -6)
        self.assertEqual(turn((x, origin, y, z)), -6)
        self.assertEqual(turn((z, y, x, origin)), 6)

    def test_flat_ones(self):
        self.assertEqual(turn(((0, 0, 0), (1, 0, 0), (0, 1, 0), (1, 1, 0))), 0)
        self.assertEqual(turn(((0, 0, 0), (1, 2, 3), (2, 4, 6), (7, 7, 1))), 0)
        self.assertEqual(turn(((5, 5, 5),) * 4), 0)

    def test_any_points(self):
        told = [(-3, 10 ** 30, 5), (7, -2, 0), (0, 0, 10 ** 20), (11, 13, -17), (1, 1, 1)]
        for wedge in permutations(told, 4):
            self.assertEqual(asked(self, turn, wedge), turn_by_words(wedge))


class Wedges(unittest.TestCase):
    def test_a_lone_cell(self):
        told = wedges(((1, 1, 1), ()))
        self.assertEqual(len(told), 24)
        self.assertEqual(told[0], ((2, 2, 2), (0, 2, 2), (0, 0, 0), (0, 0, 4)))
        self.assertEqual({wedge[0] for wedge in told}, {(2, 2, 2)})
        self.assertEqual({turn(wedge) for wedge in told}, {16})

    def test_how_many(self):
        whole = tuple(product(range(2), repeat=3))
        self.assertEqual(len(wedges(((2, 2, 2), whole))), 1536)
        self.assertEqual(len(wedges(((2, 2, 2), ()))), 192)
        # The whole cell beside the split place: one face of four, and four faces with one more corner each.
        self.assertEqual(len(wedges_of(((2, 1, 1), ((1, 0, 0),)), ((0, 0, 0), 4))), 16 + 4 * 5 + 4)

    def test_by_words(self):
        for grid in sample_grids():
            every = []
            for cell in cells(grid):
                told = wedges_of(grid, cell)
                assert_rising(self, told)
                self.assertEqual(told, wedges_by_words(grid, cell))
                every += told
            told = asked(self, wedges, grid)
            assert_rising(self, told)
            self.assertEqual(told, tuple(sorted(every)))

    def test_turns_are_above_0_and_fill_the_box(self):
        for grid in sample_grids():
            turns = [turn(wedge) for wedge in wedges(grid)]
            self.assertGreater(min(turns), 0)
            a, b, c = grid[0]
            self.assertEqual(sum(turns), 6 * 64 * a * b * c)

    def test_wedges_of_asked_twice(self):
        for grid in few_grids():
            for cell in cells(grid):
                asked(self, wedges_of, grid, cell)


class Parts(unittest.TestCase):
    def test_a_lone_cell(self):
        grid = ((1, 1, 1), ())
        self.assertEqual(len(points(grid)), 8 + 6 + 1)
        self.assertEqual(len(ties(grid)), 12 + 6 * 4 + 8 + 6)
        self.assertEqual(len(triangles(grid)), 24 + 12 + 24)
        self.assertEqual(points(grid)[:2], ((0, 0, 0), (0, 0, 4)))
        self.assertEqual(ties(grid)[0], ((0, 0, 0), (0, 0, 4)))
        self.assertEqual(triangles(grid)[0], ((0, 0, 0), (0, 0, 4), (0, 2, 2)))

    def test_by_words(self):
        for grid in sample_grids():
            whole = wedges(grid)
            for function, size in ((ties, 2), (triangles, 3)):
                told = asked(self, function, grid)
                assert_rising(self, told)
                self.assertEqual(set(told), {part for wedge in whole for part in combinations(sorted(wedge), size)})
            told = asked(self, points, grid)
            assert_rising(self, told)
            self.assertEqual(set(told), {point for wedge in whole for point in wedge})

    def test_they_come_to_one(self):
        for grid in sample_grids():
            count = len(points(grid)) - len(ties(grid)) + len(triangles(grid)) - len(wedges(grid))
            self.assertEqual(count, 1)


if __name__ == "__main__":
    unittest.main()
