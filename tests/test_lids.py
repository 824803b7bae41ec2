"""[2], [20], [21]: lids, and the volume by pieces and lids."""

import unittest
from collections import Counter
from fractions import Fraction

from levelskins.grids import corners
from levelskins.lids import lids, volume_by
from levelskins.mesh import triangles
from levelskins.pieces import skin
from levelskins.places import place_of
from levelskins.skins import parts, turned_back
from levelskins.volumes import volume
from tests.samples import (
    all_split, asked, assert_fraction, assert_rising, block_of, few_grids, known_blocks, least_first, on_one_side,
    sample_blocks, sides,
)
from tests.words import kinds_by_words

CELL = ((1, 1, 1), ())


def outward(sizes, triangle):
    """The axis of the side of the box on which the triangle lies, and 1 or -1: which way is out."""
    for axis in range(3):
        for end, way in ((0, -1), (4 * sizes[axis], 1)):
            if all(point[axis] == end for point in triangle):
                return axis, way
    return None


def against_the_clock(sizes, triangle):
    """The triangle's points in the turn that goes against the clock as seen from outside."""
    axis, way = outward(sizes, triangle)
    right, up = (axis + 1) % 3, (axis + 2) % 3
    p, q, r = triangle
    area = (q[right] - p[right]) * (r[up] - p[up]) - (q[up] - p[up]) * (r[right] - p[right])
    return (p, q, r) if area * way > 0 else (p, r, q)


def lid_by_words(kinds, ring):
    """The three cases of [20], each turned on."""
    for at in range(3):
        p, q, r = ring[at:] + ring[:at]
        highs = (kinds[p], kinds[q], kinds[r])
        if highs == (True, True, True):
            return ((p, p), (q, q), (r, r))
        if highs == (True, False, False):
            return ((p, p), (p, q), (p, r))
        if highs == (True, True, False):
            return ((p, p), (q, q), (q, r), (p, r))
    return ()


def lids_by_words(block, level):
    grid = block[0]
    kinds = kinds_by_words(block, level)
    told = []
    for triangle in triangles(grid):
        if on_one_side(grid[0], triangle):
            lid = lid_by_words(kinds, against_the_clock(grid[0], triangle))
            if lid:
                told.append(least_first(lid))
    return tuple(sorted(told))


def spot(block, level, thing):
    if thing[0] == thing[1]:
        return [Fraction(number) for number in thing[0]]
    return [Fraction(*number) for number in place_of(block, level, thing)]


def determinant(a, b, c):
    return sum(
        a[at] * (b[at - 2] * c[at - 1] - b[at - 1] * c[at - 2]) for at in range(3)
    )


def volume_by_words(block, level, rings):
    """The words of [21], written out once more."""
    places = {thing: spot(block, level, thing) for ring in rings for thing in ring}
    return sum(
        Fraction(determinant(places[ring[0]], places[one], places[other]), 6)
        for ring in rings for one, other in zip(ring[1:], ring[2:])
    )


class Lids(unittest.TestCase):
    def test_all_high(self):
        block = (CELL, (1,) * 8)
        told = lids(block, 1)
        self.assertEqual(len(told), 24)
        self.assertIn((((0, 0, 0), (0, 0, 0)), ((0, 0, 4), (0, 0, 4)), ((0, 2, 2), (0, 2, 2))), told)
        for lid in told:
            self.assertEqual(len(lid), 3)
            self.assertTrue(all(one == other for one, other in lid))

    def test_none_high(self):
        for grid in few_grids():
            self.assertEqual(lids(block_of(grid, corners, lambda corner: 1), 2), ())

    def test_one_high(self):
        block = (CELL, (1, 0, 0, 0, 0, 0, 0, 0))
        o = (0, 0, 0)
        self.assertEqual(lids(block, 1), tuple(sorted((
            ((o, o), (o, (0, 0, 4)), (o, (0, 2, 2))), ((o, o), (o, (0, 2, 2)), (o, (0, 4, 0))),
            ((o, o), (o, (4, 0, 0)), (o, (2, 0, 2))), ((o, o), (o, (2, 0, 2)), (o, (0, 0, 4))),
            ((o, o), (o, (0, 4, 0)), (o, (2, 2, 0))), ((o, o), (o, (2, 2, 0)), (o, (4, 0, 0))),
        ))))

    def test_two_high(self):
        block = (CELL, (1, 1, -9, -9, -9, -9, -9, -9))
        p, q, r = (0, 0, 0), (0, 0, 4), (0, 2, 2)
        self.assertIn(((p, p), (q, q), (q, r), (p, r)), lids(block, 1))

    def test_on_all_six_sides(self):
        for spread in (1, 3):
            for block in sample_blocks(corners, spread=spread):
                for level in (-1, 0, 1):
                    told = asked(self, lids, block, level)
                    assert_rising(self, told)
                    self.assertEqual(told, lids_by_words(block, level))
        grid = ((1, 2, 1), ((0, 0, 0),))
        seen = Counter(outward(grid[0], [point for thing in lid for point in thing])
                       for lid in lids(block_of(grid, corners, lambda corner: 0), 0))
        self.assertEqual(len(seen), 6)

    def test_how_many_are_high(self):
        seen = Counter()
        for block in sample_blocks(corners):
            seen.update(sum(one == other for one, other in lid) for lid in lids(block, 0))
        self.assertEqual(sorted(seen), [1, 2, 3])

    def test_against_the_clock_as_seen_from_outside(self):
        seen = 0
        for block in list(sample_blocks(corners, spread=50))[:7]:
            sizes = block[0][0]
            for lid in lids(block, 3)[::3]:
                axis, way = outward(sizes, [point for thing in lid for point in thing])
                right, up = (axis + 1) % 3, (axis + 2) % 3
                places = [spot(block, 3, thing) for thing in lid]
                area = sum(one[right] * other[up] - one[up] * other[right] for one, other in sides(places))
                # A high point at the level has a lid without area.
                self.assertGreaterEqual(area * way, 0)
                seen += area != 0
        self.assertGreater(seen, 100)

    def test_each_side_turned_back_once(self):
        for spread in (1, 3):
            for block in list(sample_blocks(corners, spread=spread)) + [known.block for known in known_blocks(corners)]:
                for level in (-1, 0, 1):
                    rings = skin(block, level) + lids(block, level)
                    having = Counter(side for ring in rings for side in sides(ring))
                    for (one, other), count in having.items():
                        self.assertEqual(count, 1)
                        self.assertEqual(having[other, one], 1)


class VolumeBy(unittest.TestCase):
    def test_none(self):
        for block in sample_blocks(corners):
            self.assertEqual(volume_by(block, 0, (), ()), (0, 1))

    def test_the_whole_box(self):
        for grid in few_grids():
            a, b, c = grid[0]
            block = block_of(grid, corners, lambda corner: 1)
            self.assertEqual(volume_by(block, 1, (), lids(block, 1)), (64 * a * b * c, 1))

    def test_a_ball_has_no_lids(self):
        block = block_of(all_split((1, 1, 1)), corners, lambda corner: 10 if corner == (2, 2, 2) else -10)
        self.assertEqual(lids(block, 0), ())
        cycles = skin(block, 0)
        self.assertEqual(volume_by(block, 0, cycles, ()), (64, 21))
        self.assertEqual(volume_by(block, 0, tuple(turned_back(cycle) for cycle in cycles), ()), (-64, 21))

    def test_a_hollow(self):
        block = block_of(all_split((1, 1, 1)), corners, lambda corner: -10 if corner == (2, 2, 2) else 10)
        assert_fraction(self, volume_by(block, 0, skin(block, 0), lids(block, 0)), 64 - Fraction(64, 21))
        self.assertEqual(volume_by(block, 0, skin(block, 0), ()), (-64, 21))

    def test_is_volume(self):
        for spread, levels in ((1, (-1, 0, 1)), (3, (-2, 0, 1)), (20, (-20, -7, 0, 13, 20))):
            for block in sample_blocks(corners, spread=spread):
                for level in levels:
                    told = volume_by(block, level, skin(block, level), lids(block, level))
                    self.assertEqual(told, volume(block, level))
        for known in known_blocks(corners):
            told = volume_by(known.block, 0, skin(known.block, 0), lids(known.block, 0))
            self.assertEqual(told, volume(known.block, 0), known.name)

    def test_in_any_order(self):
        for block in sample_blocks(corners, spread=20):
            told = volume_by(block, 2, skin(block, 2)[::-1], lids(block, 2)[::-1])
            self.assertEqual(told, volume(block, 2))

    def test_by_words(self):
        below_0 = 0
        for block in list(sample_blocks(corners, spread=20))[:6]:
            cycles, closing = skin(block, 2), lids(block, 2)
            some = [tuple(cycles[number] for number in part) for part in parts(cycles)]
            for these, those in [(one, ()) for one in some] + [
                (cycles[::3], closing[::5]), (cycles, ()), ((), closing), (cycles[:1], closing[-1:]),
            ]:
                told = asked(self, volume_by, block, 2, these, those)
                assert_fraction(self, told, volume_by_words(block, 2, these + those))
                below_0 += told[0] < 0
        self.assertGreater(below_0, 0)


if __name__ == "__main__":
    unittest.main()
