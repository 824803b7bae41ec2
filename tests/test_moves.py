"""[2], [26]: boxes turned and mirrored, and the skins in them."""

import random
import unittest
from itertools import product

from levelskins.blocks import is_block
from levelskins.grids import cells, corners
from levelskins.mesh import turn, wedges
from levelskins.moves import mirror, moved, moved_cycles, moved_point, then, undone
from levelskins.pieces import skin
from levelskins.skins import closed_holds, turned_back
from tests.samples import (
    ALL_SIZES, MOVES, asked, assert_rising, is_three, least_first, sample_blocks, sample_grids, solids,
)
from tests.words import worths_by_words

STAY = ((0, 1, 2), (0, 0, 0))
FEW = (STAY, ((1, 2, 0), (0, 1, 1)), ((0, 2, 1), (0, 0, 0)), ((2, 1, 0), (1, 0, 1)), ((0, 1, 2), (0, 1, 0)))


def sizes_behind(sizes, move):
    return tuple(sizes[axis] for axis in move[0])


def is_move(thing):
    return type(thing) is tuple and thing in MOVES and is_three(thing[0]) and is_three(thing[1])


def some_points(sizes, seed=3):
    picked = random.Random(seed)
    told = list(product(*[(0, 4 * size) for size in sizes]))
    return told + [tuple(picked.randint(0, 4 * size) for size in sizes) for _ in range(6)]


class MovedPoint(unittest.TestCase):
    def test_forty_eight(self):
        self.assertEqual(len(set(MOVES)), 48)

    def test_examples(self):
        for move, wanted in (
            (STAY, (1, 2, 3)), (((0, 1, 2), (1, 0, 0)), (3, 2, 3)), (((0, 1, 2), (0, 1, 0)), (1, 6, 3)),
            (((0, 1, 2), (0, 0, 1)), (1, 2, 9)), (((1, 0, 2), (0, 0, 0)), (2, 1, 3)),
            (((1, 2, 0), (0, 0, 0)), (2, 3, 1)), (((2, 0, 1), (0, 0, 0)), (3, 1, 2)),
            (((2, 0, 1), (1, 0, 0)), (9, 1, 2)), (((2, 0, 1), (0, 1, 1)), (3, 3, 6)),
        ):
            self.assertEqual(moved_point((1, 2, 3), move, (1, 2, 3)), wanted, move)

    def test_by_words(self):
        for sizes in ALL_SIZES:
            for move in MOVES:
                axes, flips = move
                for point in some_points(sizes):
                    told = moved_point(sizes, move, point)
                    self.assertTrue(is_three(told))
                    for i in range(3):
                        old, length = point[axes[i]], 4 * sizes[axes[i]]
                        self.assertEqual(told[i], length - old if flips[i] == 1 else old)

    def test_the_corners_of_the_box(self):
        for sizes in ALL_SIZES:
            ahead = set(product(*[(0, 4 * size) for size in sizes]))
            for move in MOVES:
                behind = set(product(*[(0, 4 * size) for size in sizes_behind(sizes, move)]))
                self.assertEqual({moved_point(sizes, move, point) for point in ahead}, behind)

    def test_unlike_moves_of_a_cube(self):
        told = {tuple(moved_point((1, 1, 1), move, point) for point in some_points((1, 1, 1))) for move in MOVES}
        self.assertEqual(len(told), 48)

    def test_asked_twice(self):
        for move in MOVES:
            asked(self, moved_point, (2, 1, 3), move, (8, 1, 5))


class Mirror(unittest.TestCase):
    def test_examples(self):
        for move, wanted in (
            (STAY, False), (((0, 1, 2), (1, 0, 0)), True), (((0, 1, 2), (1, 0, 1)), False),
            (((0, 1, 2), (1, 1, 1)), True), (((1, 0, 2), (0, 0, 0)), True), (((2, 1, 0), (0, 0, 0)), True),
            (((0, 2, 1), (0, 0, 0)), True), (((1, 2, 0), (0, 0, 0)), False), (((2, 0, 1), (0, 0, 0)), False),
            (((2, 0, 1), (0, 1, 0)), True), (((1, 0, 2), (0, 1, 0)), False), (((2, 1, 0), (1, 1, 1)), False),
        ):
            self.assertIs(mirror(move), wanted, move)

    def test_by_the_turns_of_wedges(self):
        wedge = ((1, 1, 1), (2, 1, 1), (1, 2, 1), (1, 1, 2))
        self.assertEqual(turn(wedge), 1)
        found = []
        for move in MOVES:
            told = asked(self, mirror, move)
            behind = turn(tuple(moved_point((2, 2, 1), move, point) for point in wedge))
            self.assertIs(told, behind == -1)
            found.append(told)
        self.assertEqual(found.count(True), 24)


class Then(unittest.TestCase):
    def test_the_other_one_behind(self):
        # First x and y change places, then the first axis is flipped; and the other way round.
        swap, flip = ((1, 0, 2), (0, 0, 0)), ((0, 1, 2), (1, 0, 0))
        self.assertEqual(then(swap, flip), ((1, 0, 2), (1, 0, 0)))
        self.assertEqual(then(flip, swap), ((1, 0, 2), (0, 1, 0)))

    def test_all_pairs(self):
        sizes = (1, 2, 3)
        told = some_points(sizes)[6:10]
        for move in MOVES:
            between = [moved_point(sizes, move, point) for point in told]
            for other in MOVES:
                both = then(move, other)
                self.assertTrue(is_move(both), both)
                wanted = [moved_point(sizes_behind(sizes, move), other, point) for point in between]
                self.assertEqual([moved_point(sizes, both, point) for point in told], wanted)

    def test_with_none(self):
        for move in MOVES:
            self.assertEqual(asked(self, then, move, STAY), move)
            self.assertEqual(then(STAY, move), move)

    def test_mirrors(self):
        for move in MOVES:
            for other in MOVES:
                self.assertIs(mirror(then(move, other)), mirror(move) != mirror(other))


class Undone(unittest.TestCase):
    def test_examples(self):
        self.assertEqual(undone(STAY), STAY)
        self.assertEqual(undone(((1, 2, 0), (0, 0, 0))), ((2, 0, 1), (0, 0, 0)))
        self.assertEqual(undone(((1, 2, 0), (1, 0, 0))), ((2, 0, 1), (0, 1, 0)))

    def test_on_both_sides(self):
        for move in MOVES:
            told = asked(self, undone, move)
            self.assertTrue(is_move(told), told)
            self.assertEqual(then(move, told), STAY)
            self.assertEqual(then(told, move), STAY)
            self.assertEqual(undone(told), move)

    def test_points_come_back(self):
        for sizes in ((1, 2, 3), (3, 1, 2), (2, 2, 2)):
            for move in MOVES:
                for point in some_points(sizes):
                    there = moved_point(sizes, move, point)
                    self.assertEqual(moved_point(sizes_behind(sizes, move), undone(move), there), point)


class Moved(unittest.TestCase):
    def test_one_cell(self):
        block = (((1, 1, 1), ()), (0, 1, 2, 3, 4, 5, 6, 7))
        self.assertEqual(moved(block, STAY), block)
        self.assertEqual(moved(block, ((0, 1, 2), (0, 0, 1))), (((1, 1, 1), ()), (1, 0, 3, 2, 5, 4, 7, 6)))
        self.assertEqual(moved(block, ((2, 1, 0), (0, 0, 0))), (((1, 1, 1), ()), (0, 4, 2, 6, 1, 5, 3, 7)))

    def test_split_places(self):
        grid = ((1, 2, 3), ((0, 0, 1), (0, 1, 0), (0, 1, 2)))
        block = (grid, tuple(range(len(corners(grid)))))
        told = moved(block, ((2, 0, 1), (1, 0, 0)))
        self.assertEqual(told[0], ((3, 1, 2), ((0, 0, 1), (1, 0, 0), (2, 0, 1))))

    def test_blocks_and_worths(self):
        for spread in (3, 9999):
            for block in sample_blocks(corners, spread=spread):
                sizes = block[0][0]
                ahead = worths_by_words(block)
                for move in MOVES[::1 if len(ahead) < 60 else 7]:
                    told = asked(self, moved, block, move)
                    self.assertIs(is_block(told), True)
                    self.assertEqual(told[0][0], sizes_behind(sizes, move))
                    wanted = {moved_point(sizes, move, point): number for point, number in ahead.items()}
                    self.assertEqual(worths_by_words(told), wanted)

    def test_cells(self):
        picked = random.Random(4)
        for grid in sample_grids():
            block = (grid, (0,) * len(corners(grid)))
            move = picked.choice(MOVES)
            told = moved(block, move)[0]
            middles = [
                sorted(tuple(number + side // 2 for number in low) for low, side in cells(one)) for one in (grid, told)
            ]
            self.assertEqual(sorted(moved_point(grid[0], move, point) for point in middles[0]), middles[1])

    def test_back_again(self):
        for block in sample_blocks(corners):
            for move in MOVES[::5]:
                self.assertEqual(moved(moved(block, move), undone(move)), block)

    def test_one_behind_another(self):
        picked = random.Random(5)
        for block in sample_blocks(corners):
            for _ in range(5):
                one, other = picked.choice(MOVES), picked.choice(MOVES)
                self.assertEqual(moved(moved(block, one), other), moved(block, then(one, other)))


class MovedCycles(unittest.TestCase):
    def test_none(self):
        for move in MOVES:
            self.assertEqual(asked(self, moved_cycles, (1, 2, 3), move, ()), ())

    def test_one_cycle(self):
        a, b, c = ((0, 0, 0), (4, 0, 0)), ((0, 0, 0), (0, 4, 0)), ((0, 0, 0), (0, 0, 4))
        cycle = least_first((a, b, c))
        self.assertEqual(moved_cycles((1, 1, 1), STAY, (cycle,)), (cycle,))
        self.assertEqual(moved_cycles((1, 1, 1), ((1, 2, 0), (0, 0, 0)), (cycle,)), (cycle,))
        self.assertEqual(moved_cycles((1, 1, 1), ((1, 0, 2), (0, 0, 0)), (cycle,)), (cycle,))
        d, e, f = ((4, 0, 0), (0, 0, 0)), ((4, 0, 0), (4, 4, 0)), ((4, 0, 0), (4, 0, 4))
        self.assertEqual(moved_cycles((1, 1, 1), ((0, 1, 2), (1, 0, 0)), (cycle,)), (least_first((f, e, d)),))

    def test_skins(self):
        seen = 0
        for spread in (1, 3):
            for block in sample_blocks(corners, spread=spread):
                sizes = block[0][0]
                for level in (0, 1):
                    cycles = skin(block, level)
                    for move in MOVES[level::1 if len(cycles) < 60 else 9]:
                        told = asked(self, moved_cycles, sizes, move, cycles)
                        assert_rising(self, told)
                        self.assertEqual(told, tuple(sorted(skin(moved(block, move), level))))
                        seen += len(told)
        self.assertGreater(seen, 5000)

    def test_wedges_go_with_them(self):
        for block in list(sample_blocks(corners))[:5]:
            for move in FEW:
                ahead = [{moved_point(block[0][0], move, point) for point in wedge} for wedge in wedges(block[0])]
                behind = [set(wedge) for wedge in wedges(moved(block, move)[0])]
                self.assertEqual(sorted(map(sorted, ahead)), sorted(map(sorted, behind)))

    def test_any_knots(self):
        for sizes in ((1, 2, 3), (3, 1, 1), (2, 2, 2)):
            for cycles, _ in solids(sizes):
                for move in MOVES[::3]:
                    told = asked(self, moved_cycles, sizes, move, cycles)
                    assert_rising(self, told)
                    self.assertEqual(len(told), len(cycles))
                    self.assertIs(closed_holds(sizes_behind(sizes, move), told), True)
                    wanted = set()
                    for cycle in cycles:
                        ring = tuple(tuple(moved_point(sizes, move, point) for point in knot) for knot in cycle)
                        wanted.add(least_first(ring[::-1] if mirror(move) else ring))
                    self.assertEqual(set(told), wanted)

    def test_order_does_not_matter(self):
        for block in sample_blocks(corners):
            cycles = skin(block, 0)
            for move in FEW:
                told = moved_cycles(block[0][0], move, cycles)
                self.assertEqual(moved_cycles(block[0][0], move, cycles[::-1]), told)

    def test_turned_back_ones(self):
        for block in sample_blocks(corners):
            cycles = skin(block, 0)
            backs = tuple(turned_back(cycle) for cycle in cycles)
            for move in FEW:
                told = moved_cycles(block[0][0], move, cycles)
                self.assertEqual(
                    moved_cycles(block[0][0], move, backs), tuple(sorted(turned_back(cycle) for cycle in told)))


if __name__ == "__main__":
    unittest.main()
