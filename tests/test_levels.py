"""[2], [22]: what changes from one level to another."""

import unittest
from fractions import Fraction

from levelskins.grids import cells, corners
from levelskins.levels import touched
from levelskins.mesh import ties, wedges, wedges_of
from levelskins.pieces import pieces
from levelskins.places import along, place_of
from tests.samples import all_split, asked, assert_rising, block_of, is_int, sample_blocks
from tests.words import kinds_by_words, worths_by_words

CELL = ((1, 1, 1), ())
LEVELS = ((-1, 0), (0, 1), (1, 3), (-9999, 0), (2, 9999), (-3, 2))


def touched_by_words(block, one, other):
    """The words of [22], written out once more; the levels in either order."""
    here, there = kinds_by_words(block, one), kinds_by_words(block, other)
    return tuple(
        cell for cell in cells(block[0])
        if any(here[point] != there[point] for wedge in wedges_of(block[0], cell) for point in wedge)
    )


class Touched(unittest.TestCase):
    def test_one_corner(self):
        # Of three places in a row only the last has a corner that is high at 5 and low at 6.
        grid = ((3, 1, 1), ())
        block = block_of(grid, corners, lambda corner: 5 if corner == (12, 0, 4) else -99)
        self.assertEqual(touched(block, 5, 6), (((8, 0, 0), 4),))
        self.assertEqual(touched(block, 4, 5), ())
        self.assertEqual(touched(block, 6, 7), ())

    def test_a_middle_alone(self):
        # No corner lies between both levels: the cell's middle, worth 2, and three faces' middles do.
        block = (CELL, (8, -1, -1, -1, -1, -1, -1, 0))
        self.assertEqual(touched(block, 0, 1), (((0, 0, 0), 4),))
        block = (CELL, (9, -1, -1, -1, -1, -1, -1, -1))
        self.assertEqual(touched(block, 0, 1), (((0, 0, 0), 4),))
        self.assertEqual(touched(block, 2, 3), ())

    def test_a_corner_in_a_midst(self):
        # It belongs to cells of the split place, and lies in the midst of a side of the other one's face.
        grid = ((2, 1, 1), ((1, 0, 0),))
        block = block_of(grid, corners, lambda corner: 5 if corner == (4, 2, 0) else -99)
        self.assertEqual(touched(block, 5, 6), (((0, 0, 0), 4), ((4, 0, 0), 2), ((4, 2, 0), 2)))

    def test_a_face_between(self):
        # The middle of the face between both cells belongs to either.
        grid = ((2, 1, 1), ())
        block = block_of(grid, corners, lambda corner: {(4, 0, 0): 90, (4, 4, 4): -86}.get(corner, 0))
        self.assertEqual(touched(block, 1, 2), (((0, 0, 0), 4), ((4, 0, 0), 4)))

    def test_a_point_at_the_level(self):
        block = (CELL, (4,) * 8)
        for one, other, wanted in (
            (3, 4, ()), (4, 5, (((0, 0, 0), 4),)), (5, 6, ()), (-9999, 4, ()), (5, 9999, ()), (-9999, 9999, cells(CELL)),
        ):
            self.assertEqual(touched(block, one, other), wanted, (one, other))
            self.assertEqual(touched(block, other, one), wanted, (one, other))

    def test_like_levels(self):
        for block in sample_blocks(corners):
            for level in (-9999, -1, 0, 2, 9999):
                self.assertEqual(asked(self, touched, block, level, level), ())

    def test_levels_beyond_all_numbers(self):
        for block in sample_blocks(corners):
            for one, other in ((-9999, -4), (4, 9999), (4, 5), (-5, -4), (-9999, -3)):
                self.assertEqual(touched(block, one, other), ())
            self.assertEqual(touched(block, -9999, 9999), cells(block[0]))
            self.assertEqual(touched(block, 4, -3), cells(block[0]))

    def test_by_words(self):
        some = 0
        for spread in (1, 3, 40):
            for block in sample_blocks(corners, spread=spread):
                for one, other in LEVELS:
                    told = asked(self, touched, block, one, other)
                    assert_rising(self, told)
                    self.assertEqual(told, touched_by_words(block, one, other))
                    self.assertEqual(touched(block, other, one), told)
                    for low, side in told:
                        self.assertTrue(type(low) is tuple and all(is_int(number) for number in low + (side,)))
                    some += 0 < len(told) < len(cells(block[0]))
        self.assertGreater(some, 20)

    def test_all_split(self):
        block = block_of(all_split((2, 2, 2)), corners, lambda corner: sum(corner))
        for level in (0, 5, 12, 24):
            self.assertEqual(touched(block, level, level + 1), touched_by_words(block, level, level + 1))


class Pieces(unittest.TestCase):
    def test_the_same_in_all_other_cells(self):
        seen = 0
        for spread in (3, 40):
            for block in sample_blocks(corners, spread=spread):
                home = {wedge: cell for cell in cells(block[0]) for wedge in wedges_of(block[0], cell)}
                for one, other in LEVELS:
                    told = touched(block, one, other)
                    here, there = dict(pieces(block, one)), dict(pieces(block, other))
                    for wedge in wedges(block[0]):
                        if home[wedge] not in told:
                            self.assertEqual(here.get(wedge), there.get(wedge))
                            seen += wedge in here
        self.assertGreater(seen, 1000)


class Knots(unittest.TestCase):
    def test_in_the_levels_order_on_each_tie(self):
        seen = 0
        for block in sample_blocks(corners, spread=20):
            worths = worths_by_words(block)
            for tie in ties(block[0])[::7]:
                low, high = sorted(tie, key=worths.get)
                # These are the levels at which the tie has a knot.
                levels = range(worths[low] // 8 + 1, worths[high] // 8 + 1)
                places = [place_of(block, level, (high, low)) for level in levels]
                ways = [sum(abs(Fraction(*at) - end) for at, end in zip(place, low)) for place in places]
                self.assertTrue(all(one < other for one, other in zip([0] + ways, ways)))
                self.assertEqual(ways, sorted(set(ways)))
                parts = [Fraction(*along(block, level, (high, low))) for level in levels]
                self.assertEqual(parts, sorted(set(parts)))
                seen += len(ways) > 1
        self.assertGreater(seen, 200)


if __name__ == "__main__":
    unittest.main()
