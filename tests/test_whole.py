"""[2]: what the document promises over the whole program, of blocks that rows of deeds come to."""

import random
import unittest
from unittest import mock

from levelskins import standings
from levelskins.counts import euler
from levelskins.errors import SkinError
from levelskins.grids import cells, corners
from levelskins.keepers import Keeper
from levelskins.levels import touched
from levelskins.lids import lids, volume_by
from levelskins.mesh import points, ties, wedges, wedges_of
from levelskins.meshpapers import mesh_holds
from levelskins.moves import moved, moved_cycles
from levelskins.nests import nest, nest_holds
from levelskins.pieces import pieces, skin
from levelskins.regions import own_counts, region_holds, regions
from levelskins.skins import closed_holds, parts
from levelskins.sweeps import count_at, sweep
from levelskins.volumes import volume
from levelskins.walks import crossed, fewest, heights_hold, walk_holds
from levelskins.words import read, show
from tests.rows import assert_stands, done, some_deed
from tests.samples import MOVES, on_one_side, sample_blocks, sides
from tests.words import kinds_by_words


def standings_come_to(seed):
    """Keepers behind rows of deeds, some of them undone, tried or refused."""
    picked = random.Random(seed)
    for block in sample_blocks(corners, seed=seed):
        keeper = Keeper(block, 0)
        for _ in range(6):
            choice = picked.random()
            deed = some_deed(picked, keeper.its_block())
            try:
                if choice < 0.2:
                    keeper.back()
                elif choice < 0.4:
                    keeper.tried([deed, ("relevel", picked.randint(-2, 2))])
                elif choice < 0.5:
                    keeper.tried([deed, ("relevel", 99999)])
                else:
                    done(keeper, deed)
            except SkinError:
                pass
        yield picked, keeper


class Promise(unittest.TestCase):
    def test_of_keepers_behind_rows_of_deeds(self):
        sized = 0
        for seed in (21, 22):
            for picked, keeper in standings_come_to(seed):
                block, level = keeper.its_block(), keeper.its_level()
                cycles = keeper.its_skin()
                assert_stands(self, keeper, block, level)
                self.one_piece_in_a_wedge(block, level, cycles)
                self.sides_are_met(block, cycles)
                self.walks_cross(picked, block, level)
                self.it_is_counted(block, level, cycles)
                self.regions_make_a_tree(block, level, cycles)
                self.assertEqual(volume_by(block, level, cycles, lids(block, level)), volume(block, level))
                move = picked.choice(MOVES)
                self.assertEqual(
                    moved_cycles(block[0][0], move, cycles), tuple(sorted(skin(moved(block, move), level))))
                self.assertEqual(read(show(block)), block)
                sized += len(cycles) > 20
        self.assertGreater(sized, 10)

    def one_piece_in_a_wedge(self, block, level, cycles):
        self.assertIs(mesh_holds(block[0][0], wedges(block[0])), True)
        homes = [wedge for wedge, cycle in pieces(block, level)]
        self.assertEqual(len(set(homes)), len(homes))
        self.assertTrue(set(homes) <= set(wedges(block[0])))
        self.assertEqual([cycle for wedge, cycle in pieces(block, level)], list(cycles))

    def sides_are_met(self, block, cycles):
        self.assertIs(closed_holds(block[0][0], cycles), True)
        told = [side for cycle in cycles for side in sides(cycle)]
        self.assertEqual(len(set(told)), len(told))
        for one, other in told:
            if (other, one) not in told:
                self.assertTrue(on_one_side(block[0][0], one + other))

    def walks_cross(self, picked, block, level):
        kinds = kinds_by_words(block, level)
        near = {}
        for tie in ties(block[0]):
            near.setdefault(tie[0], []).append(tie[1])
            near.setdefault(tie[1], []).append(tie[0])
        walk = [picked.choice(points(block[0]))]
        for _ in range(15):
            walk.append(picked.choice(near[walk[-1]]))
        self.assertIs(walk_holds(block[0], tuple(walk)), True)
        many = crossed(block, level, tuple(walk))
        self.assertEqual(many % 2 == 1, kinds[walk[0]] != kinds[walk[-1]])
        count, least, heights = fewest(block, level, walk[0], walk[-1])
        self.assertLessEqual(count, many)
        self.assertEqual(crossed(block, level, least), count)
        self.assertIs(heights_hold(block, level, heights), True)

    def it_is_counted(self, block, level, cycles):
        told = [a - b + c - d for a, b, c, d in own_counts(block, level)]
        self.assertEqual(euler(cycles), sum(told) - 1)

    def regions_make_a_tree(self, block, level, cycles):
        highs, lows = regions(block, level)
        self.assertEqual(len(parts(cycles)), len(highs) + len(lows) - 1)
        self.assertIs(nest_holds(len(highs), len(lows), nest(block, level)), True)
        self.assertTrue(all(region_holds(block, level, region) for region in highs + lows))
        self.assertEqual(count_at(block, sweep(block), level), len(highs))


class OnlyWhatIsTold(unittest.TestCase):
    def test_just_the_told_cells_are_made(self):
        # What makes a cell's cycles is called once for each cell that is told, and for no other.
        picked = random.Random(23)
        seen = 0
        with mock.patch.object(standings, "cycles_in", wraps=standings.cycles_in) as making:
            for block in sample_blocks(corners):
                keeper = Keeper(block, 0)
                self.assertEqual(making.call_count, keeper.made())
                for _ in range(6):
                    making.reset_mock()
                    if picked.random() < 0.3 and seen:
                        keeper.relevel(1)
                        making.reset_mock()
                        told = keeper.back()
                    else:
                        told = done(keeper, some_deed(picked, keeper.its_block()))
                    grid = keeper.its_block()[0]
                    made = [call.args[1] for call in making.call_args_list]
                    self.assertEqual(made, [wedges_of(grid, cell) for cell in told])
                    seen += len(told)
                making.reset_mock()
        self.assertGreater(seen, 100)

    def test_relevel_tells_what_is_touched(self):
        for block in sample_blocks(corners):
            keeper = Keeper(block, 0)
            for level in (1, -1, 2, 9999, -9999, 0):
                ahead = keeper.its_level()
                self.assertEqual(keeper.relevel(level), touched(block, ahead, level))

    def test_all_cells_at_first(self):
        for block in sample_blocks(corners):
            self.assertEqual(Keeper(block, 0).made(), len(cells(block[0])))


if __name__ == "__main__":
    unittest.main()
