"""[16]: regions, and what lies within them."""

import unittest
from itertools import combinations

from levelskins.grids import corners
from levelskins.mesh import points, ties, triangles, wedges
from levelskins.regions import own_counts, region_holds, regions
from tests.samples import asked, assert_rising, is_int, is_three, known_blocks, odd_things, sample_blocks, variants
from tests.words import kinds_by_words, regions_by_words


def own_counts_by_words(block, level):
    kinds = kinds_by_words(block, level)
    rows = (
        [(point,) for point in points(block[0])], ties(block[0]), triangles(block[0]), wedges(block[0]),
    )
    return tuple(
        tuple(sum({kinds[point] for point in things} == {kind} for things in row) for row in rows)
        for kind in (True, False)
    )


class Regions(unittest.TestCase):
    def test_one_cell(self):
        block = (((1, 1, 1), ()), (1, 0, 0, 0, 0, 0, 0, 1))
        whole = points(block[0])
        ends = ((0, 0, 0), (4, 4, 4))
        self.assertEqual(regions(block, 1), (
            ((ends[0],), (ends[1],)), (tuple(point for point in whole if point not in ends),),
        ))

    def test_none_of_a_kind(self):
        block = (((1, 1, 1), ()), (4,) * 8)
        whole = points(block[0])
        for level in (-9999, 3, 4):
            self.assertEqual(regions(block, level), ((whole,), ()))
        for level in (5, 9999):
            self.assertEqual(regions(block, level), ((), (whole,)))

    def test_known(self):
        for known in known_blocks(corners):
            highs, lows = asked(self, regions, known.block, 0)
            self.assertEqual((len(highs), len(lows)), (known.highs, known.lows), known.name)

    def test_by_words(self):
        several = 0
        for spread in (1, 3):
            for block in sample_blocks(corners, spread=spread):
                for level in (-2, -1, 0, 1, 2):
                    told = asked(self, regions, block, level)
                    self.assertIs(type(told), tuple)
                    self.assertEqual(told, regions_by_words(block, level))
                    for kind in told:
                        assert_rising(self, kind)
                        for region in kind:
                            assert_rising(self, region)
                    several += len(told[0]) + len(told[1]) > 2
        self.assertGreater(several, 10)


class RegionHolds(unittest.TestCase):
    def test_those_of_either_kind(self):
        for block in sample_blocks(corners):
            for level in (-2, 0, 1, 9999):
                for kind in regions_by_words(block, level):
                    for region in kind[:3] + kind[-3:]:
                        self.assertIs(asked(self, region_holds, block, level, region), True)

    def test_unions(self):
        for block in sample_blocks(corners):
            highs, lows = regions_by_words(block, 0)
            for one, other in list(combinations(highs[:3] + lows[:3], 2)):
                self.assertIs(region_holds(block, 0, tuple(sorted(one + other))), False)

    def test_a_point_less_or_more(self):
        for block in sample_blocks(corners):
            for kind in regions_by_words(block, 0):
                for region in kind[:2]:
                    others = [point for point in points(block[0]) if point not in region]
                    for at in range(0, len(region), 1 + len(region) // 4):
                        self.assertIs(region_holds(block, 0, region[:at] + region[at + 1:]), False)
                    for point in others[::1 + len(others) // 4]:
                        self.assertIs(region_holds(block, 0, tuple(sorted(region + (point,)))), False)

    def test_not_rising(self):
        block = (((1, 1, 1), ()), (4,) * 8)
        whole = points(block[0])
        self.assertIs(region_holds(block, 4, whole), True)
        self.assertIs(region_holds(block, 4, whole[::-1]), False)
        self.assertIs(region_holds(block, 4, whole[1:2] + whole[:1] + whole[2:]), False)
        self.assertIs(region_holds(block, 4, whole[:1] + whole), False)

    def test_at_another_level(self):
        block = (((1, 1, 1), ()), (1, 0, 0, 0, 0, 0, 0, 0))
        self.assertIs(region_holds(block, 1, ((0, 0, 0),)), True)
        self.assertIs(region_holds(block, 2, ((0, 0, 0),)), False)
        self.assertIs(region_holds(block, 0, ((0, 0, 0),)), False)

    def test_lists_truths_and_empty_ones(self):
        block = (((1, 1, 1), ()), (1, 0, 0, 0, 0, 0, 0, 0))
        for thing in (
            [(0, 0, 0)], ([0, 0, 0],), ((False, 0, 0),), ((0, 0, False),), (), (0, 0, 0), ((0, 0, 0), None),
            (None,), ("000",), None, True, "", ((0, 0),), ((0, 0, 0, 0),), (((0, 0, 0),),), ((-1, 0, 0),),
        ):
            self.assertIs(asked(self, region_holds, block, 1, thing), False)
        for level in (-9999, 9999):
            self.assertIs(region_holds(block, level, ()), False)

    def test_things_of_any_kind(self):
        for block in list(sample_blocks(corners))[:3]:
            for thing in odd_things():
                self.assertIs(asked(self, region_holds, block, 0, thing), False)

    def test_a_part_changed(self):
        block = (((1, 1, 1), ()), (3, 0, 0, 2, -5, 1, 1, 4))
        highs, lows = regions_by_words(block, 1)
        for region in highs + lows:
            for thing in variants(region):
                wanted = type(thing) is tuple and all(is_three(part) for part in thing) and thing in highs + lows
                self.assertIs(region_holds(block, 1, thing), wanted, thing)


class OwnCounts(unittest.TestCase):
    def test_one_cell(self):
        block = (((1, 1, 1), ()), (1, 0, 0, 0, 0, 0, 0, 0))
        self.assertEqual(own_counts(block, 0), ((15, 50, 60, 24), (0, 0, 0, 0)))
        self.assertEqual(own_counts(block, 2), ((0, 0, 0, 0), (15, 50, 60, 24)))
        # The corner has seven ties: three along edges, three to faces' middles and one to the cell's.
        self.assertEqual(own_counts(block, 1), ((1, 0, 0, 0), (14, 43, 48, 18)))

    def test_by_words(self):
        for spread in (1, 3):
            for block in sample_blocks(corners, spread=spread):
                for level in (-2, 0, 1):
                    told = asked(self, own_counts, block, level)
                    self.assertEqual(told, own_counts_by_words(block, level))
                    for kind in told:
                        self.assertIs(type(kind), tuple)
                        self.assertTrue(all(is_int(number) for number in kind))


if __name__ == "__main__":
    unittest.main()
