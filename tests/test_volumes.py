"""[19]: volumes by wedges."""

import unittest
from fractions import Fraction
from itertools import permutations

from levelskins.grids import corners
from levelskins.mesh import turn, wedges
from levelskins.volumes import part_of, volume
from tests.samples import all_split, asked, assert_fraction, block_of, few_grids, known_blocks, sample_blocks
from tests.words import worths_by_words

CELL = ((1, 1, 1), ())
WEDGE = ((2, 2, 2), (0, 2, 2), (0, 0, 0), (0, 0, 4))


def part_by_words(depths):
    """The wedge is cut at where the level lies on one of its ties, and both parts again, until none is left."""
    highs = [at for at, depth in enumerate(depths) if depth > 0]
    lows = [at for at, depth in enumerate(depths) if depth < 0]
    if not highs or not lows:
        return Fraction(not lows)
    high, low = highs[0], lows[0]
    share = Fraction(depths[high], depths[high] - depths[low])
    upper, lower = list(depths), list(depths)
    upper[low] = lower[high] = 0
    return share * part_by_words(upper) + (1 - share) * part_by_words(lower)


def volume_by_words(block, level):
    worths = worths_by_words(block)
    return sum(
        Fraction(turn(wedge), 6) * part_by_words([worths[point] - 8 * level for point in wedge])
        for wedge in wedges(block[0])
    )


class PartOf(unittest.TestCase):
    def test_the_wedge(self):
        self.assertIn(WEDGE, wedges(CELL))

    def test_all_and_none(self):
        block = (CELL, (1,) * 8)
        for wedge in wedges(CELL):
            for level, wanted in ((-9999, (1, 1)), (0, (1, 1)), (1, (1, 1)), (2, (0, 1)), (9999, (0, 1))):
                self.assertEqual(asked(self, part_of, block, level, wedge), wanted)

    def test_one_and_three_high_points(self):
        # Worths 0, 0, -32, 32: one is 24 beyond the level, the others 8, 8 and 40 on its other side.
        block = (CELL, (-4, 4, 0, 0, 0, 0, 0, 0))
        self.assertEqual(part_of(block, 1, WEDGE), (27, 128))
        self.assertEqual(part_of(block, -1, WEDGE), (101, 128))

    def test_two_high_points(self):
        # Worths -8, 0, 16, 16: a third of the way to the first, half of it to the second.
        block = (CELL, (2, 2, -2, -2, -2, -2, -2, -2))
        self.assertEqual(part_of(block, 1, WEDGE), (13, 36))

    def test_points_at_the_level(self):
        # Worths 0, 0, -32, 32.
        block = (CELL, (-4, 4, 0, 0, 0, 0, 0, 0))
        self.assertEqual(part_of(block, 0, WEDGE), (1, 2))
        # Only a corner, or only an edge, or only a side is at the level: that has no volume.
        self.assertEqual(part_of(block, 4, WEDGE), (0, 1))
        self.assertEqual(part_of((CELL, (4, 4, -4, -4, 0, 0, 0, 0)), 4, WEDGE), (0, 1))
        self.assertEqual(part_of((CELL, (4, 4, 4, 4, 0, 0, 0, 0)), 4, WEDGE), (0, 1))
        # And where only these are at the level and all else is above it, nothing lacks.
        self.assertEqual(part_of((CELL, (4, 4, 4, 4, 8, 8, 8, 8)), 4, WEDGE), (1, 1))
        self.assertEqual(part_of((CELL, (4, 4, 8, 8, 8, 8, 8, 8)), 4, WEDGE), (1, 1))
        self.assertEqual(part_of((CELL, (4, 8, 8, 8, 8, 8, 8, 8)), 4, WEDGE), (1, 1))

    def test_how_many_are_high(self):
        found = {}
        for spread, levels in ((2, (-1, 0, 1)), (9999, (-4000, 0, 77))):
            for block in list(sample_blocks(corners, spread=spread))[:7]:
                worths = worths_by_words(block)
                for level in levels:
                    for wedge in wedges(block[0])[::9]:
                        depths = [worths[point] - 8 * level for point in wedge]
                        told = part_of(block, level, wedge)
                        wanted = part_by_words(depths)
                        assert_fraction(self, told, wanted)
                        self.assertTrue(0 <= wanted <= 1)
                        kind = (sum(depth >= 0 for depth in depths), 0 in depths)
                        found[kind] = found.get(kind, 0) + 1
        for many in range(5):
            self.assertGreater(found[many, False], 5)
        for many in range(1, 5):
            self.assertGreater(found[many, True], 5)

    def test_in_any_order(self):
        for block in (
            (CELL, (-3, 4, 5, 0, 0, 0, 0, 0)), (CELL, (-7, 2, 5, 1, -9, 3, 0, 0)), (CELL, (7, 2, 5, -1, 9, 3, 1, 4)),
            (CELL, (2, 2, 1, 1, 1, 1, 1, 1)), (CELL, (2, 5, 1, 0, -3, 1, -8, -1)),
        ):
            for level in (-1, 0, 1, 2):
                told = {part_of(block, level, order) for order in permutations(WEDGE)}
                self.assertEqual(told, {part_of(block, level, WEDGE)})


class Volume(unittest.TestCase):
    def test_the_whole_box_and_none(self):
        for grid in few_grids() + [all_split((2, 2, 2)), ((3, 1, 2), ())]:
            a, b, c = grid[0]
            block = block_of(grid, corners, lambda corner: 1)
            for level in (-20, 0, 1):
                self.assertEqual(volume(block, level), (64 * a * b * c, 1))
            for level in (2, 20):
                self.assertEqual(volume(block, level), (0, 1))

    def test_levels_beyond_all_numbers(self):
        for block in sample_blocks(corners, spread=19):
            a, b, c = block[0][0]
            self.assertEqual(volume(block, -20), (64 * a * b * c, 1))
            self.assertEqual(volume(block, 20), (0, 1))

    def test_a_slope(self):
        # The numbers rise evenly along an axis, so the level lies straight across it.
        for grid in few_grids():
            for axis in range(3):
                length = 4 * grid[0][axis]
                across = 64 * grid[0][0] * grid[0][1] * grid[0][2] // length
                up = block_of(grid, corners, lambda corner: corner[axis])
                down = block_of(grid, corners, lambda corner: -corner[axis])
                for level in range(-1, length + 2):
                    high = min(max(length - level, 0), length)
                    self.assertEqual(volume(up, level), (high * across, 1))
                    low = min(max(level, 0), length)
                    self.assertEqual(volume(down, -level), (low * across, 1))

    def test_across_a_corner(self):
        # The level cuts off a corner of the cube: the sixth part of three edges multiplied.
        for grid in (CELL, all_split((1, 1, 1))):
            block = block_of(grid, corners, lambda corner: 12 - sum(corner))
            for level in (8, 9, 10, 11, 12):
                assert_fraction(self, volume(block, level), Fraction((12 - level) ** 3, 6))
                below = block_of(grid, corners, lambda corner: sum(corner))
                assert_fraction(self, volume(below, 12 - level), 64 - Fraction((12 - level) ** 3, 6))

    def test_a_ball(self):
        # 48 wedges of a third each lie round the middle; on their ties the level lies at 1/2, 2/3 and 4/7 of the way.
        block = block_of(all_split((1, 1, 1)), corners, lambda corner: 10 if corner == (2, 2, 2) else -10)
        self.assertEqual(volume(block, 0), (64, 21))
        known = {known.name: known.block for known in known_blocks(corners)}
        self.assertEqual(volume(known["a ball"], 0), (0, 1))

    def test_by_words(self):
        for spread, levels in ((1, (0, 1)), (3, (-2, 0, 1)), (20, (-7, 0, 13))):
            for block in sample_blocks(corners, spread=spread):
                for level in levels:
                    assert_fraction(self, volume(block, level), volume_by_words(block, level))

    def test_the_largest_grid(self):
        block = block_of(all_split((2, 2, 2)), corners, lambda told: (told[0] * told[1] * 7 + told[2] ** 3) % 41 - 20)
        assert_fraction(self, asked(self, volume, block, 3), volume_by_words(block, 3))

    def test_asked_twice(self):
        for block in sample_blocks(corners):
            asked(self, volume, block, 0)


if __name__ == "__main__":
    unittest.main()
