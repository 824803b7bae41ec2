"""[9]: blocks, worths, levels, kinds."""

import unittest

from levelskins import blocks
from levelskins.blocks import is_block, is_high, worth
from levelskins.grids import corners, is_grid
from levelskins.mesh import points
from tests.samples import asked, few_grids, is_int, odd_things, sample_blocks, variants
from tests.words import worths_by_words


def block_by_words(thing):
    """The words of [9], written out once more."""
    if type(thing) is not tuple or len(thing) != 2 or not is_grid(thing[0]) or type(thing[1]) is not tuple:
        return False
    in_range = [is_int(number) and -9999 <= number <= 9999 for number in thing[1]]
    return all(in_range) and len(in_range) == len(corners(thing[0]))


class IsBlock(unittest.TestCase):
    def test_most(self):
        self.assertEqual(blocks.MOST, 9999)

    def test_blocks(self):
        for block in sample_blocks(corners):
            self.assertIs(asked(self, is_block, block), True)

    def test_too_few_and_too_many_numbers(self):
        for grid in few_grids():
            for more in (-2, -1, 0, 1, 2):
                self.assertIs(is_block((grid, (5,) * (len(corners(grid)) + more))), more == 0)
        self.assertIs(is_block((((1, 1, 1), ()), ())), False)

    def test_numbers_at_the_ends(self):
        for number, held in (
            (9999, True), (10000, False), (-9999, True), (-10000, False), (10 ** 39, False), (0, True),
            (True, False), (False, False), (None, False), ("0", False), ((0,), False), ([0], False),
        ):
            for at in range(8):
                numbers = (1,) * at + (number,) + (1,) * (7 - at)
                self.assertIs(is_block((((1, 1, 1), ()), numbers)), held, numbers)

    def test_lists_and_bad_grids(self):
        numbers = (1,) * 8
        for thing in (
            [((1, 1, 1), ()), numbers], (((1, 1, 1), ()), list(numbers)), ([(1, 1, 1), ()], numbers),
            (((1, 1, 1), []), numbers), (((1, 1, 0), ()), numbers), (((4, 1, 1), ()), (1,) * 20), (None, numbers),
            ((((1, 1, 1), ()), "11111111")), (((1, 1, 1), ()), None), (((1, 1, 1), ((1, 0, 0),)), numbers),
            (((1, 1, True), ()), numbers), (((1, 1, 1), ()), numbers, ()), (((1, 1, 1), ()),),
        ):
            self.assertIs(is_block(thing), False, thing)

    def test_things_of_any_kind(self):
        for thing in odd_things():
            self.assertIs(asked(self, is_block, thing), False)

    def test_a_part_changed(self):
        for block in list(sample_blocks(corners))[:4]:
            for thing in variants(block):
                self.assertIs(is_block(thing), block_by_words(thing), thing)


class Worth(unittest.TestCase):
    def test_one_cell(self):
        block = (((1, 1, 1), ()), (1, 2, 3, 5, 8, 13, 21, -34))
        self.assertEqual(worth(block, (0, 0, 0)), 8)
        self.assertEqual(worth(block, (4, 4, 4)), -272)
        self.assertEqual(worth(block, (0, 2, 2)), 2 * (1 + 2 + 3 + 5))
        self.assertEqual(worth(block, (2, 2, 4)), 2 * (2 + 5 + 13 - 34))
        self.assertEqual(worth(block, (2, 2, 2)), 1 + 2 + 3 + 5 + 8 + 13 + 21 - 34)

    def test_a_corner_in_a_midst(self):
        grid = ((2, 1, 1), ((1, 0, 0),))
        numbers = tuple(1000 if corner == (4, 2, 0) else 1 for corner in corners(grid))
        block = (grid, numbers)
        self.assertEqual(worth(block, (4, 2, 0)), 8000)
        # The corner in the midst of a face's side is none of the face's four corners.
        self.assertEqual(worth(block, (2, 2, 0)), 8)
        self.assertEqual(worth(block, (2, 2, 2)), 8)
        self.assertEqual(worth(block, (4, 1, 1)), 2 * 1003)
        self.assertEqual(worth(block, (5, 1, 1)), 1007)

    def test_by_words(self):
        for spread in (3, 9999):
            for block in sample_blocks(corners, spread=spread):
                wanted = worths_by_words(block)
                self.assertEqual(tuple(sorted(wanted)), points(block[0]))
                for point, number in wanted.items():
                    told = worth(block, point)
                    self.assertIs(type(told), int)
                    self.assertEqual(told, number, point)

    def test_asked_twice(self):
        for block in sample_blocks(corners):
            for point in points(block[0])[::9]:
                asked(self, worth, block, point)
                asked(self, is_high, block, 0, point)


class IsHigh(unittest.TestCase):
    def test_at_below_and_above_the_level(self):
        block = (((1, 1, 1), ()), (-7, -7, -7, -7, -7, -7, -7, -7))
        for point in points(block[0]):
            self.assertIs(is_high(block, -8, point), True)
            self.assertIs(is_high(block, -7, point), True)
            self.assertIs(is_high(block, -6, point), False)

    def test_by_an_eighth(self):
        for more, middle in ((0, True), (-1, False), (1, True)):
            block = (((1, 1, 1), ()), (3 + more, 3, 3, 3, 3, 3, 3, 3))
            self.assertIs(is_high(block, 3, (2, 2, 2)), middle)
            self.assertIs(is_high(block, 3, (0, 2, 2)), middle)
            self.assertIs(is_high(block, 3, (0, 0, 0)), middle)
            self.assertIs(is_high(block, 3, (4, 4, 4)), True)

    def test_by_words(self):
        for block in sample_blocks(corners):
            wanted = worths_by_words(block)
            for level in (-9999, -3, -1, 0, 1, 2, 9999):
                for point in list(wanted)[::5]:
                    self.assertIs(is_high(block, level, point), wanted[point] >= 8 * level)


if __name__ == "__main__":
    unittest.main()
