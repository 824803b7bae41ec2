"""[25]: lines of steps, the areas between them, and the layers of blocks."""

import random
import unittest

from levelskins.grids import corners
from levelskins.lines import areas, layer, lines
from levelskins.pieces import skin
from levelskins.sheets import is_sheet, steps
from tests.samples import ALL_SIZES, asked, assert_rising, block_of, sample_sheets, sides
from tests.words import sheet_kinds_by_words, sheet_triangles_by_words

LEVELS = (-2, -1, 0, 1, 2)


def steps_of_line(line):
    kind, knots = line
    return sides(knots) if kind == "ring" else list(zip(knots, knots[1:]))


def areas_by_words(sheet, level):
    """Points put together as long as two of one kind in a triangle are in unlike regions."""
    kinds = sheet_kinds_by_words(sheet, level)
    home = {point: {point} for point in kinds}
    for triangle in sheet_triangles_by_words(sheet[0]):
        for one in triangle:
            for other in triangle:
                if kinds[one] == kinds[other] and home[one] is not home[other]:
                    both = home[one] | home[other]
                    home.update({point: both for point in both})
    told = {tuple(sorted(region)) for region in home.values()}
    return tuple(tuple(sorted(region for region in told if kinds[region[0]] is kind)) for kind in (True, False))


def on_the_rim(sizes, knot):
    return any(
        all(point[axis] == end for point in knot) for axis in (0, 1) for end in (0, 4 * sizes[axis])
    )


def sheet_of(sizes, number_at):
    a, b = sizes
    return (sizes, tuple(number_at(x, y) for x in range(a + 1) for y in range(b + 1)))


class Lines(unittest.TestCase):
    def test_a_corner(self):
        a, b, d, m = (0, 0), (4, 0), (0, 4), (2, 2)
        self.assertEqual(lines(((1, 1), (1, 0, 0, 0)), 1), (("way", ((a, b), (a, m), (a, d))),))
        # Turned about: it is gone the other way.
        self.assertEqual(lines(((1, 1), (-1, 9, 9, 9)), 1), (("way", ((d, a), (m, a), (b, a))),))

    def test_a_hill(self):
        # Round the hill against the clock, from the least knot on.
        sheet = sheet_of((2, 2), lambda x, y: 4 if (x, y) == (1, 1) else -1)
        top = (4, 4)
        ring = [(0, 4), (2, 2), (4, 0), (6, 2), (8, 4), (6, 6), (4, 8), (2, 6)]
        self.assertEqual(lines(sheet, 4), (("ring", tuple((top, low) for low in ring)),))

    def test_a_hollow(self):
        # With the clock, as high points are at the left hand; the least knot is that of the least high point.
        sheet = sheet_of((2, 2), lambda x, y: -99 if (x, y) == (1, 1) else 9)
        (kind, knots), = lines(sheet, 1)
        self.assertEqual(kind, "ring")
        self.assertEqual(knots[0], ((0, 0), (2, 2)))
        self.assertEqual(knots[1], ((0, 4), (2, 2)))
        self.assertEqual(knots[-1], ((4, 0), (2, 2)))

    def test_a_ring_and_a_way(self):
        def number_at(x, y):
            return 4 if (x, y) in ((3, 3), (0, 0)) else -1
        told = lines(sheet_of((4, 4), number_at), 4)
        self.assertEqual([kind for kind, knots in told], ["ring", "way"])
        self.assertEqual(told[1][1], (((0, 0), (4, 0)), ((0, 0), (2, 2)), ((0, 0), (0, 4))))

    def test_rings_within_rings(self):
        # Hollow, ridge and slope, one within another.
        sheet = sheet_of((8, 8), lambda x, y: (0, 9, 0, 9, 9)[max(abs(x - 4), abs(y - 4))])
        told = lines(sheet, 5)
        self.assertEqual([kind for kind, knots in told], ["ring"] * 3)
        self.assertEqual([len(region) for region in areas(sheet, 5)], [2, 2])

    def test_a_saddle(self):
        # Two corners across are high: at one level the middle leads from one to the other, at the next it doesn't.
        a, b, c, d, m = (0, 0), (4, 0), (4, 4), (0, 4), (2, 2)
        sheet = ((1, 1), (9, 0, 0, 9))
        self.assertEqual(lines(sheet, 4), (
            ("way", ((a, b), (m, b), (c, b))), ("way", ((c, d), (m, d), (a, d))),
        ))
        self.assertEqual(lines(sheet, 5), (
            ("way", ((a, b), (a, m), (a, d))), ("way", ((c, d), (c, m), (c, b))),
        ))

    def test_none(self):
        for sheet in sample_sheets():
            for level in (-9999, -3, 4, 9999):
                self.assertEqual(asked(self, lines, sheet, level), ())

    def test_form_and_order(self):
        found = {"ring": 0, "way": 0}
        for spread in (1, 3):
            for sheet in sample_sheets(spread=spread):
                for level in LEVELS:
                    told = asked(self, lines, sheet, level)
                    assert_rising(self, told)
                    for line in told:
                        self.assertIs(type(line), tuple)
                        kind, knots = line
                        found[kind] += 1
                        self.assertIs(type(knots), tuple)
                        self.assertEqual(len(set(knots)), len(knots))
                        if kind == "ring":
                            self.assertEqual(knots[0], min(knots))
        self.assertGreater(min(found.values()), 20)

    def test_each_step_in_just_one(self):
        for spread in (1, 3, 9999):
            for sheet in sample_sheets(spread=spread):
                for level in LEVELS:
                    told = [step for line in lines(sheet, level) for step in steps_of_line(line)]
                    self.assertEqual(tuple(sorted(told)), steps(sheet, level))

    def test_ways_lead_from_rim_to_rim(self):
        for spread in (1, 3):
            for sheet in sample_sheets(spread=spread):
                for level in LEVELS:
                    for kind, knots in lines(sheet, level):
                        rim = [at for at, knot in enumerate(knots) if on_the_rim(sheet[0], knot)]
                        self.assertEqual(rim, [0, len(knots) - 1] if kind == "way" else [])

    def test_one_less_than_the_areas(self):
        for spread in (1, 2, 3, 9999):
            for sheet in sample_sheets(spread=spread):
                for level in LEVELS + (-9999, 9999):
                    highs, lows = areas(sheet, level)
                    self.assertEqual(len(lines(sheet, level)), len(highs) + len(lows) - 1)


class Areas(unittest.TestCase):
    def test_one_square(self):
        a, b, c, d, m = (0, 0), (4, 0), (4, 4), (0, 4), (2, 2)
        self.assertEqual(areas(((1, 1), (1, 0, 0, 0)), 1), (((a,),), ((d, m, b, c),)))
        self.assertEqual(areas(((1, 1), (9, 0, 0, 9)), 4), (((a, m, c),), ((d,), (b,))))
        self.assertEqual(areas(((1, 1), (9, 0, 0, 9)), 5), (((a,), (c,)), ((d, m, b),)))

    def test_none_of_a_kind(self):
        whole = ((0, 0), (0, 4), (2, 2), (4, 0), (4, 4))
        for level, wanted in ((-9999, ((whole,), ())), (4, ((whole,), ())), (5, ((), (whole,))), (9999, ((), (whole,)))):
            self.assertEqual(areas(((1, 1), (4,) * 4), level), wanted)

    def test_by_words(self):
        several = 0
        for spread in (1, 3):
            for sheet in sample_sheets(spread=spread):
                for level in LEVELS:
                    told = asked(self, areas, sheet, level)
                    self.assertIs(type(told), tuple)
                    self.assertEqual(told, areas_by_words(sheet, level))
                    for kind in told:
                        assert_rising(self, kind)
                        for region in kind:
                            assert_rising(self, region)
                    several += len(told[0]) > 1 and len(told[1]) > 1
        self.assertGreater(several, 10)


class Layer(unittest.TestCase):
    def blocks(self):
        picked = random.Random(8)
        for spread in (2, 9999):
            for sizes in ALL_SIZES:
                yield block_of((sizes, ()), corners, lambda corner: picked.randint(-spread, spread))

    def test_one_cell(self):
        block = (((1, 1, 1), ()), (0, 1, 2, 3, 4, 5, 6, 7))
        self.assertEqual(layer(block, 0), ((1, 1), (0, 2, 4, 6)))
        self.assertEqual(layer(block, 1), ((1, 1), (1, 3, 5, 7)))

    def test_two_unlike_sizes(self):
        block = block_of(((1, 2, 1), ()), corners, lambda corner: 100 * corner[0] + 10 * corner[1] + corner[2])
        self.assertEqual(layer(block, 0), ((1, 2), (0, 40, 80, 400, 440, 480)))
        self.assertEqual(layer(block, 1), ((1, 2), (4, 44, 84, 404, 444, 484)))

    def test_each_height(self):
        for block in self.blocks():
            (a, b, c), _ = block[0]
            number_at = dict(zip(corners(block[0]), block[1]))
            for k in range(c + 1):
                told = asked(self, layer, block, k)
                self.assertIs(is_sheet(told), True)
                self.assertEqual(told, sheet_of((a, b), lambda x, y: number_at[4 * x, 4 * y, 4 * k]))

    def test_the_skins_sides_are_its_steps(self):
        seen = 0
        for block in self.blocks():
            c = block[0][0][2]
            for level in (-1, 0, 2, 1500):
                told = {side for cycle in skin(block, level) for side in sides(cycle)}
                for k in range(c + 1):
                    own = {
                        side for side in told if all(point[2] == 4 * k for knot in side for point in knot)
                    }
                    raised = {
                        tuple(tuple(point + (4 * k,) for point in knot) for knot in step)
                        for step in steps(layer(block, k), level)
                    }
                    backs = {(other, one) for one, other in raised}
                    if 0 < k < c:
                        self.assertEqual(own, raised | backs)
                    else:
                        self.assertTrue(own <= raised | backs)
                        self.assertTrue(all((side in own) != (side[::-1] in own) for side in raised))
                    seen += len(own)
        self.assertGreater(seen, 500)


if __name__ == "__main__":
    unittest.main()
