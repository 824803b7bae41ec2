"""[2], [27]: keepers, and what can be asked of them."""

import random
import unittest

from levelskins import keepers
from levelskins.errors import NoCell
from levelskins.grids import cells, corners
from levelskins.keepers import Keeper
from levelskins.mesh import wedges_of
from levelskins.pieces import pieces, skin
from levelskins.words import show
from tests.rows import done, some_deed
from tests.samples import all_split, asked, is_int, known_blocks, sample_blocks, sample_grids

CELL = ((1, 1, 1), ())
CORNER = (CELL, (1, 0, 0, 0, 0, 0, 0, 0))


class Asked(unittest.TestCase):
    def test_block_level_and_skin(self):
        for block in sample_blocks(corners):
            for level in (-9999, -1, 0, 2, 9999):
                keeper = Keeper(block, level)
                self.assertEqual(asked(self, keeper.its_block), block)
                self.assertEqual(asked(self, keeper.its_level), level)
                self.assertEqual(asked(self, keeper.its_skin), skin(block, level))
                self.assertEqual(len(keeper), len(skin(block, level)))
                self.assertEqual(keeper.made(), len(cells(block[0])))
                self.assertEqual(keeper.log(), ())

    def test_the_order_of_the_wedges(self):
        # A split place beside one that isn't: cells do not lie in the order of their middles.
        unlike = 0
        for block in sample_blocks(corners):
            keeper = Keeper(block, 0)
            by_cells = tuple(cycle for cell in cells(block[0]) for cycle in keeper.its_cycles(cell))
            unlike += by_cells != keeper.its_skin()
            self.assertEqual(sorted(by_cells), sorted(keeper.its_skin()))
        self.assertGreater(unlike, 2)

    def test_what_was_handed_in_is_not_changed(self):
        block = (CELL, (1, 0, 0, 0, 0, 0, 0, 0))
        keeper = Keeper(block, 1)
        keeper.renumber((0, 0, 0), 7)
        keeper.cut((0, 0, 0), [0] * 19)
        self.assertEqual(block, CORNER)

    def test_asked_twice(self):
        for block in sample_blocks(corners):
            keeper = Keeper(block, 0)
            self.assertEqual(str(keeper), str(keeper))
            for cell in cells(block[0])[::4]:
                asked(self, keeper.its_cycles, cell)
            self.assertEqual(asked(self, keeper.made), len(cells(block[0])))


class ItsCycles(unittest.TestCase):
    def test_of_every_cell(self):
        for block in sample_blocks(corners):
            for level in (-1, 0, 2):
                keeper = Keeper(block, level)
                own = dict(pieces(block, level))
                together = []
                for cell in cells(block[0]):
                    told = keeper.its_cycles(cell)
                    self.assertIs(type(told), tuple)
                    wanted = [own[wedge] for wedge in wedges_of(block[0], cell) if wedge in own]
                    self.assertEqual(told, tuple(wanted))
                    together += told
                self.assertEqual(sorted(together), sorted(skin(block, level)))

    def test_none(self):
        for block in sample_blocks(corners):
            for level in (-9999, 9999):
                keeper = Keeper(block, level)
                self.assertEqual(keeper.its_skin(), ())
                self.assertEqual(len(keeper), 0)
                for cell in cells(block[0]):
                    self.assertEqual(keeper.its_cycles(cell), ())

    def refused(self, keeper, cell):
        with self.assertRaises(NoCell) as caught:
            keeper.its_cycles(cell)
        self.assertEqual(caught.exception.cell, cell)

    def test_no_cell(self):
        keeper = Keeper(CORNER, 1)
        for cell in (
            ((0, 0, 0), 2), ((0, 0, 0), 1), ((0, 0, 0), 8), ((0, 0, 0), 0), ((0, 0, 0), -4), ((4, 0, 0), 4),
            ((0, 0, 4), 4), ((-4, 0, 0), 4), ((2, 0, 0), 2), ((1, 1, 1), 4), ((2, 2, 2), 4), ((0, 0, 10 ** 39), 4),
        ):
            self.refused(keeper, cell)
        self.assertEqual(keeper.its_cycles(((0, 0, 0), 4)), keeper.its_skin())

    def test_no_cell_beside_split_places(self):
        grid = ((2, 1, 1), ((1, 0, 0),))
        keeper = Keeper((grid, (0,) * len(corners(grid))), 0)
        for cell in (
            ((4, 0, 0), 4), ((0, 0, 0), 2), ((2, 2, 2), 2), ((8, 0, 0), 2), ((8, 0, 0), 4), ((4, 0, 4), 2),
            ((5, 0, 0), 2), ((4, 0, 0), 1),
        ):
            self.refused(keeper, cell)
        self.assertEqual(keeper.its_cycles(((6, 2, 2), 2)), ())

    def test_no_cell_behind_deeds(self):
        keeper = Keeper(CORNER, 1)
        whole, fine = ((0, 0, 0), 4), ((2, 0, 2), 2)
        self.refused(keeper, fine)
        keeper.cut((0, 0, 0), (0,) * 19)
        self.refused(keeper, whole)
        self.assertEqual(keeper.its_cycles(fine), ())
        keeper.back()
        self.refused(keeper, fine)
        keeper.its_cycles(whole)
        keeper.tried([("cut", (0, 0, 0), (0,) * 19)])
        self.refused(keeper, whole)
        keeper.heal((0, 0, 0))
        self.refused(keeper, fine)


class Made(unittest.TestCase):
    def test_all_at_first(self):
        for grid in sample_grids():
            keeper = Keeper((grid, (0,) * len(corners(grid))), 0)
            self.assertEqual(keeper.made(), len(cells(grid)))
            self.assertTrue(is_int(keeper.made()))

    def test_then_what_deeds_and_back_tell(self):
        picked = random.Random(1)
        for block in sample_blocks(corners):
            keeper = Keeper(block, 0)
            made = keeper.made()
            for _ in range(8):
                made += len(done(keeper, some_deed(picked, keeper.its_block())))
                self.assertEqual(keeper.made(), made)
                if picked.random() < 0.4:
                    made += len(keeper.back())
                    self.assertEqual(keeper.made(), made)

    def test_of_deeds_that_change_nothing(self):
        keeper = Keeper(CORNER, 1)
        self.assertEqual(keeper.relevel(1), ())
        self.assertEqual(keeper.renumber((0, 0, 0), 1), ())
        self.assertEqual(keeper.made(), 1)


class Equality(unittest.TestCase):
    def same(self, one, other, wanted):
        self.assertIs(one == other, wanted)
        self.assertIs(other == one, wanted)
        self.assertIs(one != other, not wanted)

    def test_blocks_and_levels(self):
        self.same(Keeper(CORNER, 1), Keeper(CORNER, 1), True)
        self.same(Keeper(CORNER, 1), Keeper(CORNER, 2), False)
        self.same(Keeper(CORNER, 1), Keeper((CELL, (1, 0, 0, 0, 0, 0, 0, 1)), 1), False)
        # The same skin, but another level or other numbers.
        self.assertEqual(Keeper(CORNER, 5).its_skin(), Keeper(CORNER, 6).its_skin())
        self.same(Keeper(CORNER, 5), Keeper(CORNER, 6), False)
        self.same(Keeper((CELL, (3,) * 8), 5), Keeper((CELL, (2,) * 8), 5), False)
        # The same numbers, but another grid.
        numbers = (0,) * len(corners(((2, 1, 1), ((1, 0, 0),))))
        self.same(
            Keeper((((2, 1, 1), ((0, 0, 0),)), numbers), 0), Keeper((((2, 1, 1), ((1, 0, 0),)), numbers), 0), False)
        self.same(Keeper((((2, 1, 1), ()), (0,) * 12), 0), Keeper((((1, 2, 1), ()), (0,) * 12), 0), False)

    def test_itself(self):
        keeper = Keeper(CORNER, 1)
        self.same(keeper, keeper, True)

    def test_however_they_came_to_be(self):
        keeper = Keeper((CELL, (0,) * 8), 7)
        fresh = Keeper(CORNER, 1)
        self.same(keeper, fresh, False)
        keeper.renumber((0, 0, 0), 1)
        self.same(keeper, fresh, False)
        keeper.tried([("relevel", 1)])
        self.same(keeper, fresh, True)
        self.assertNotEqual(keeper.made(), fresh.made())
        self.assertNotEqual(keeper.log(), fresh.log())
        keeper.relevel(2)
        self.same(keeper, fresh, False)
        keeper.back()
        self.same(keeper, fresh, True)

    def test_nothing_else(self):
        class Like:
            def __eq__(self, other):
                return True

        keeper = Keeper(CORNER, 1)
        for thing in (
            None, True, False, 0, 1, 2, "", str(keeper), CORNER, (CORNER, 1), [CORNER, 1], (), [], {}, keeper.its_skin(),
            object(), Keeper, ValueError(),
        ):
            self.same(keeper, thing, False)
        self.assertIs(keeper == Like(), False)
        self.same(Keeper(CORNER, 9), 0, False)
        self.same(Keeper(CORNER, 9), (), False)


class Words(unittest.TestCase):
    def test_one_cell(self):
        self.assertEqual(str(Keeper(CORNER, -12)), (
            "sizes 1 1 1\n0 0 0 1\n0 0 4 0\n0 4 0 0\n0 4 4 0\n4 0 0 0\n4 0 4 0\n4 4 0 0\n4 4 4 0\nlevel -12\n"
        ))

    def test_by_words(self):
        picked = random.Random(2)
        for block in sample_blocks(corners, spread=9999):
            for level in (-9999, 0, 9999):
                self.assertEqual(str(Keeper(block, level)), f"{show(block)}level {level}\n")
            keeper = Keeper(block, 3)
            for _ in range(3):
                done(keeper, some_deed(picked, keeper.its_block()))
                self.assertEqual(str(keeper), f"{show(keeper.its_block())}level {keeper.its_level()}\n")


class Length(unittest.TestCase):
    def test_known(self):
        for known in known_blocks(corners):
            self.assertEqual(len(Keeper(known.block, 0)), len(skin(known.block, 0)), known.name)

    def test_numbers_at_the_module(self):
        self.assertEqual((keepers.BACKS, keepers.LINES), (30, 8))

    def test_all_split(self):
        grid = all_split((2, 2, 2))
        block = (grid, tuple(sum(corner) for corner in corners(grid)))
        for level in (0, 5, 12, 24, 25):
            self.assertEqual(len(Keeper(block, level)), len(skin(block, level)))


if __name__ == "__main__":
    unittest.main()
