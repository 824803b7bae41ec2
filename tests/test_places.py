"""[10], [22]: the places of knots, and how far along their ties they lie."""

import unittest
from fractions import Fraction

from levelskins.blocks import is_high, worth
from levelskins.grids import corners
from levelskins.mesh import ties
from levelskins.places import along, place_of
from tests.samples import asked, assert_fraction, sample_blocks

CELL = ((1, 1, 1), ())


def knots(block, level):
    """All knots of the block at this level."""
    for one, other in ties(block[0]):
        if is_high(block, level, one) != is_high(block, level, other):
            yield (one, other) if is_high(block, level, one) else (other, one)


def part_by_words(block, level, knot):
    high, low = knot
    return Fraction(8 * level - worth(block, low), worth(block, high) - worth(block, low))


class Fractions(unittest.TestCase):
    def test_by_words(self):
        for spread, levels in ((3, (-2, 0, 1)), (9999, (-5000, 7))):
            for block in list(sample_blocks(corners, spread=spread))[:7]:
                for level in levels:
                    for knot in list(knots(block, level))[::4]:
                        part = part_by_words(block, level, knot)
                        self.assertTrue(0 < part <= 1)
                        assert_fraction(self, along(block, level, knot), part)
                        told = place_of(block, level, knot)
                        self.assertIs(type(told), tuple)
                        self.assertEqual(len(told), 3)
                        for number, end, start in zip(told, *knot):
                            assert_fraction(self, number, start + part * (end - start))

    def test_asked_twice(self):
        for block in sample_blocks(corners):
            for knot in list(knots(block, 0))[::25]:
                asked(self, along, block, 0, knot)
                asked(self, place_of, block, 0, knot)


class Examples(unittest.TestCase):
    def test_lowest_terms(self):
        block = (CELL, (-2, 4, 0, 0, 0, 0, 0, 0))
        knot = ((0, 0, 4), (0, 0, 0))
        self.assertEqual(along(block, 0, knot), (1, 3))
        self.assertEqual(place_of(block, 0, knot), ((0, 1), (0, 1), (4, 3)))
        self.assertEqual(along(block, 1, knot), (1, 2))
        self.assertEqual(place_of(block, 1, knot), ((0, 1), (0, 1), (2, 1)))

    def test_from_the_low_point_downwards(self):
        block = (CELL, (4, -2, 0, 0, 0, 0, 0, 0))
        knot = ((0, 0, 0), (0, 0, 4))
        self.assertEqual(along(block, 0, knot), (1, 3))
        self.assertEqual(place_of(block, 0, knot), ((0, 1), (0, 1), (8, 3)))

    def test_towards_the_middle(self):
        block = (CELL, (-1, 3, 3, 3, 3, 3, 3, 3))
        knot = ((2, 2, 2), (0, 0, 0))
        self.assertEqual(along(block, 2, knot), (6, 7))
        self.assertEqual(place_of(block, 2, knot), ((12, 7), (12, 7), (12, 7)))

    def test_the_ends_of_the_numbers(self):
        block = (CELL, (-9999, 9999, 0, 0, 0, 0, 0, 0))
        knot = ((0, 0, 4), (0, 0, 0))
        self.assertEqual(along(block, -9998, knot), (1, 19998))
        self.assertEqual(along(block, 9999, knot), (1, 1))
        self.assertEqual(place_of(block, -9998, knot), ((0, 1), (0, 1), (2, 9999)))


class AtTheLevel(unittest.TestCase):
    def test_a_high_point_at_the_level(self):
        block = (CELL, (5, 1, 2, 3, 4, 0, 1, 2))
        seen = 0
        for knot in knots(block, 5):
            self.assertEqual(knot[0], (0, 0, 0))
            self.assertEqual(along(block, 5, knot), (1, 1))
            self.assertEqual(place_of(block, 5, knot), ((0, 1), (0, 1), (0, 1)))
            seen += 1
        self.assertEqual(seen, 7)

    def test_in_blocks(self):
        seen = 0
        for block in sample_blocks(corners):
            for knot in knots(block, 0):
                if worth(block, knot[0]) == 0:
                    seen += 1
                    if seen % 10 == 0:
                        self.assertEqual(along(block, 0, knot), (1, 1))
                        self.assertEqual(place_of(block, 0, knot), tuple((number, 1) for number in knot[0]))
        self.assertGreater(seen, 100)


class InOrder(unittest.TestCase):
    def test_the_greater_level_has_the_greater_part(self):
        seen = 0
        for block in list(sample_blocks(corners, spread=20))[:6]:
            for less, greater in ((-20, -9), (-3, -2), (-1, 0), (0, 1), (2, 11)):
                for knot in sorted(set(knots(block, less)) & set(knots(block, greater)))[::5]:
                    self.assertLess(Fraction(*along(block, less, knot)), Fraction(*along(block, greater, knot)))
                    seen += 1
        self.assertGreater(seen, 100)


if __name__ == "__main__":
    unittest.main()
