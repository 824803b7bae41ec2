"""[2], [11], [12]: the table, pieces and skins."""

import unittest
from collections import Counter
from fractions import Fraction
from itertools import combinations, permutations, product

from levelskins.blocks import is_high
from levelskins.grids import corners
from levelskins.mesh import ties, turn, wedges
from levelskins.pieces import piece_in, pieces, skin, table
from levelskins.places import place_of
from tests.samples import asked, assert_rising, few_grids, least_first, on_one_side, sample_blocks, sides

BASES = (
    ((1, 0, 0, 0), ((0, 1), (0, 2), (0, 3))),
    ((0, 1, 1, 1), ((3, 0), (2, 0), (1, 0))),
    ((1, 1, 0, 0), ((0, 2), (0, 3), (1, 3), (1, 2))),
)


def rows_by_words():
    """The three cases of [11] with the four points exchanged, by all even exchanges."""
    rows = {(0, 0, 0, 0): {()}, (1, 1, 1, 1): {()}}
    for kinds, cycle in BASES:
        for order in permutations(range(4)):
            if sum(one > other for one, other in combinations(order, 2)) % 2 == 0:
                exchanged = tuple(kinds[order.index(at)] for at in range(4))
                told = least_first([(order[high], order[low]) for high, low in cycle])
                rows.setdefault(exchanged, set()).add(told)
    return rows


def cross(one, other):
    return [one[a - 2] * other[a - 1] - one[a - 1] * other[a - 2] for a in range(3)]


def difference(one, other):
    return [a - b for a, b in zip(one, other)]


def area(places):
    """Twice the area of a flat piece, as what stands across it, towards those who see it against the clock."""
    total = [0, 0, 0]
    for one, other in zip(places[1:], places[2:]):
        across = cross(difference(one, places[0]), difference(other, places[0]))
        total = [a + b for a, b in zip(total, across)]
    return total


class Table(unittest.TestCase):
    def test_sixteen_rising(self):
        told = asked(self, table)
        assert_rising(self, told)
        self.assertEqual([kinds for kinds, _ in told], list(product((0, 1), repeat=4)))

    def test_by_words(self):
        rows = rows_by_words()
        for kinds, cycle in table():
            self.assertEqual(rows[kinds], {cycle})

    def test_the_told_cases(self):
        rows = dict(table())
        self.assertEqual(rows[(1, 0, 0, 0)], ((0, 1), (0, 2), (0, 3)))
        self.assertEqual(rows[(0, 1, 1, 1)], ((1, 0), (3, 0), (2, 0)))
        self.assertEqual(rows[(1, 1, 0, 0)], ((0, 2), (0, 3), (1, 3), (1, 2)))

    def test_pairs_of_high_and_low_the_least_first(self):
        for kinds, cycle in table():
            self.assertEqual(set(cycle), {
                (high, low) for high, low in permutations(range(4), 2) if kinds[high] and not kinds[low]
            })
            if cycle:
                self.assertEqual(cycle[0], min(cycle))

    def test_against_the_clock_from_the_low_side(self):
        wedge = ((0, 0, 0), (2, 0, 0), (0, 2, 0), (0, 0, 2))
        self.assertGreater(turn(wedge), 0)
        for kinds, cycle in table():
            if not cycle:
                continue
            places = [[a + b for a, b in zip(wedge[high], wedge[low])] for high, low in cycle]
            across = area(places)
            for point, kind in zip(wedge, kinds):
                reach = difference([2 * number for number in point], places[0])
                height = sum(a * b for a, b in zip(across, reach))
                self.assertEqual(height < 0, kind == 1)


class Pieces(unittest.TestCase):
    def test_one_corner_high(self):
        block = (((1, 1, 1), ()), (1, 0, 0, 0, 0, 0, 0, 0))
        told = pieces(block, 1)
        self.assertEqual(len(told), 6)
        for wedge, cycle in told:
            self.assertEqual(len(cycle), 3)
            self.assertEqual({high for high, _ in cycle}, {(0, 0, 0)})
        self.assertEqual(told[0], (
            ((2, 2, 2), (0, 2, 2), (0, 0, 0), (0, 0, 4)),
            (((0, 0, 0), (0, 0, 4)), ((0, 0, 0), (2, 2, 2)), ((0, 0, 0), (0, 2, 2))),
        ))

    def test_all_of_one_kind(self):
        for grid in few_grids():
            block = (grid, (4,) * len(corners(grid)))
            for level in (-9999, 4, 5, 9999):
                self.assertEqual(pieces(block, level), ())
                self.assertEqual(skin(block, level), ())
                self.assertEqual(piece_in(block, level, wedges(grid)[0]), ())

    def test_by_words(self):
        rows = {kinds: min(cycles) for kinds, cycles in rows_by_words().items()}
        for block in sample_blocks(corners):
            whole = wedges(block[0])
            for level in (-2, 0, 1):
                wanted = []
                highs = {point: int(is_high(block, level, point)) for wedge in whole for point in wedge}
                for wedge in whole:
                    cycle = [(wedge[high], wedge[low]) for high, low in rows[tuple(highs[point] for point in wedge)]]
                    if cycle:
                        wanted.append((wedge, least_first(cycle)))
                told = pieces(block, level)
                self.assertEqual(told, tuple(wanted))
                assert_rising(self, tuple(wedge for wedge, _ in told))
                self.assertEqual(skin(block, level), tuple(cycle for _, cycle in wanted))
                having = dict(told)
                for wedge in whole[::11]:
                    self.assertEqual(piece_in(block, level, wedge), having.get(wedge, ()))

    def test_asked_twice(self):
        for block in sample_blocks(corners):
            for level in (-9999, 0, 3):
                asked(self, pieces, block, level)
                asked(self, skin, block, level)
                asked(self, piece_in, block, level, wedges(block[0])[-1])

    def test_against_the_clock_from_the_low_side(self):
        seen = 0
        for block in list(sample_blocks(corners, spread=50))[:6]:
            for wedge, cycle in pieces(block, 3)[::3]:
                places = [[Fraction(*number) for number in place_of(block, 3, knot)] for knot in cycle]
                across = area(places)
                for high, low in cycle:
                    depth = sum(a * b for a, b in zip(across, difference(low, places[0])))
                    self.assertEqual(depth > 0, across != [0, 0, 0])
                    seen += across != [0, 0, 0]
        self.assertGreater(seen, 100)


class Promise(unittest.TestCase):
    def test_knots_are_ties_of_unlike_kind(self):
        for block in sample_blocks(corners):
            told = skin(block, 0)
            knots = {knot for cycle in told for knot in cycle}
            self.assertEqual({tuple(sorted(knot)) for knot in knots}, {
                tie for tie in ties(block[0]) if is_high(block, 0, tie[0]) != is_high(block, 0, tie[1])
            })
            for high, low in list(knots)[::7]:
                self.assertTrue(is_high(block, 0, high))
                self.assertFalse(is_high(block, 0, low))

    def test_cycles(self):
        for block in sample_blocks(corners):
            for cycle in skin(block, 0):
                self.assertIs(type(cycle), tuple)
                self.assertIn(len(cycle), (3, 4))
                self.assertEqual(len(set(cycle)), len(cycle))
                self.assertEqual(cycle[0], min(cycle))

    def test_one_piece_in_each_wedge(self):
        for block in sample_blocks(corners):
            told = pieces(block, 1)
            self.assertEqual(len({wedge for wedge, _ in told}), len(told))
            for wedge, cycle in told:
                self.assertLessEqual({point for knot in cycle for point in knot}, set(wedge))

    def test_each_side_is_met_or_on_the_rim(self):
        for spread in (1, 3):
            for block in sample_blocks(corners, spread=spread):
                for level in range(-spread, spread + 1):
                    having = Counter(side for cycle in skin(block, level) for side in sides(cycle))
                    for (one, other), count in having.items():
                        self.assertEqual(count, 1)
                        back = having.get((other, one), 0)
                        self.assertEqual(back, 0 if on_one_side(block[0][0], one + other) else 1)


if __name__ == "__main__":
    unittest.main()
