"""[2], [15], [16]: what skins come to."""

import unittest

from levelskins.counts import counts, euler, holes
from levelskins.grids import corners
from levelskins.pieces import skin
from levelskins.regions import own_counts, regions
from levelskins.skins import parts, rims
from tests.samples import (
    SOLIDS, all_split, asked, is_int, known_blocks, knots_in, sample_blocks, sides, solid, solids,
)


def counts_by_words(cycles):
    knots = {knot for cycle in cycles for knot in cycle}
    both = {frozenset(side) for cycle in cycles for side in sides(cycle)}
    return (len(knots), len(both), len(cycles))


def some_skins():
    for spread in (1, 3):
        for block in sample_blocks(corners, spread=spread):
            for level in (-1, 0, 1):
                yield block, level, skin(block, level)


class Counts(unittest.TestCase):
    def test_a_corner(self):
        cycles = skin((((1, 1, 1), ()), (1, 0, 0, 0, 0, 0, 0, 0)), 1)
        self.assertEqual(counts(cycles), (7, 12, 6))
        self.assertEqual(euler(cycles), 1)

    def test_none(self):
        self.assertEqual(counts(()), (0, 0, 0))
        self.assertEqual(euler(()), 0)
        self.assertEqual(holes(()), ())

    def test_a_side_and_that_turned_back_once(self):
        a, b, c, d = sorted(((0, 0, 0), (0, number, 0)) for number in range(1, 5))
        self.assertEqual(counts(((a, b, c),)), (3, 3, 1))
        self.assertEqual(counts(((a, b, c), (a, c, b))), (3, 3, 2))
        self.assertEqual(counts(((a, b, c), (a, c, d))), (4, 5, 2))
        self.assertEqual(counts(((a, b, c, d),)), (4, 4, 1))

    def test_solids(self):
        for sizes in ((1, 1, 1), (1, 2, 3)):
            for (rows, _), (cycles, wanted) in zip(SOLIDS, solids(sizes)):
                knots = 1 + max(number for row in rows for number in row)
                self.assertEqual(counts(cycles), (knots, sum(map(len, rows)) // 2, len(rows)))
                self.assertEqual(asked(self, euler, cycles), wanted)

    def test_two_solids_with_a_knot_in_common(self):
        knots = knots_in((2, 2, 1), 7)
        cycles = solid(SOLIDS[1][0], knots[:4]) + solid(SOLIDS[1][0], knots[3:])
        self.assertEqual(counts(cycles), (7, 12, 8))
        self.assertEqual(euler(cycles), 3)

    def test_by_words(self):
        for _, _, cycles in some_skins():
            told = asked(self, counts, cycles)
            self.assertIs(type(told), tuple)
            self.assertTrue(all(is_int(number) for number in told))
            self.assertEqual(told, counts_by_words(cycles))
            knots, many, pieces = told
            self.assertEqual(asked(self, euler, cycles), knots - many + pieces)

    def test_parts_of_skins(self):
        for _, _, cycles in some_skins():
            some = [tuple(cycles[number] for number in part) for part in parts(cycles)]
            for one in some:
                self.assertEqual(counts(one), counts_by_words(one))
            self.assertEqual(sum(euler(one) for one in some), euler(cycles))


class Holes(unittest.TestCase):
    def test_known(self):
        for known in known_blocks(corners):
            self.assertEqual(asked(self, holes, skin(known.block, 0)), known.holes, known.name)

    def test_in_the_order_of_the_parts(self):
        # A post between two sides of the box, and a corner apart from it, the one ahead or behind.
        grid = all_split((2, 2, 1))
        found = set()
        for corner in ((0, 0, 0), (8, 8, 4)):
            numbers = tuple(0 if told[:2] == (4, 4) or told == corner else -9 for told in corners(grid))
            cycles = skin((grid, numbers), 0)
            wanted = []
            for part in parts(cycles):
                post = any(high[:2] == (4, 4) for high, _ in cycles[part[0]])
                wanted.append((0, 2) if post else (0, 1))
            self.assertEqual(holes(cycles), tuple(wanted))
            found.add(tuple(wanted))
        self.assertEqual(found, {((0, 2), (0, 1)), ((0, 1), (0, 2))})

    def test_by_words(self):
        handles_seen, several, closed = 0, 0, 0
        for _, _, cycles in some_skins():
            told = asked(self, holes, cycles)
            self.assertIs(type(told), tuple)
            self.assertEqual(len(told), len(parts(cycles)))
            for part, row in zip(parts(cycles), told):
                self.assertIs(type(row), tuple)
                handles, many = row
                self.assertTrue(is_int(handles) and is_int(many) and handles >= 0)
                some = tuple(cycles[number] for number in part)
                self.assertEqual(many, len(rims(some)))
                knots, both, pieces = counts_by_words(some)
                self.assertEqual(2 * handles, 2 - (knots - both + pieces) - many)
                handles_seen += handles > 0
                closed += many == 0
            several += len(told) > 1
        self.assertGreater(min(handles_seen, several, closed), 5)


class Promise(unittest.TestCase):
    def test_what_points_ties_triangles_and_wedges_come_to(self):
        for spread, levels in ((1, (-2, -1, 0, 1, 2)), (3, range(-4, 5)), (9999, (-7000, 0, 3))):
            for block in sample_blocks(corners, spread=spread):
                for level in levels:
                    wanted = -1
                    for kind in own_counts(block, level):
                        points, ties, triangles, wedges = kind
                        wanted += points - ties + triangles - wedges
                    self.assertEqual(euler(skin(block, level)), wanted)

    def test_parts_are_one_less_than_regions(self):
        for spread in (1, 3):
            for block in sample_blocks(corners, spread=spread):
                for level in (-2, -1, 0, 1, 2):
                    highs, lows = regions(block, level)
                    self.assertEqual(len(parts(skin(block, level))), len(highs) + len(lows) - 1)


if __name__ == "__main__":
    unittest.main()
