"""[2], [28]: deeds, the cells that they make anew, and what they refuse."""

import random
import unittest

from levelskins.blocks import is_block
from levelskins.errors import Doubled, NoPlace, NoPoint, Outside
from levelskins.grids import cells, corners
from levelskins.keepers import Keeper
from tests.rows import assert_stands, assert_told, behind, done, made_anew, new_corners, some_deed, stands
from tests.samples import all_split, block_of, places, sample_blocks, sample_grids

CELL = ((1, 1, 1), ())
WHOLE = ((0, 0, 0), 4)
ROW = ((3, 1, 1), ())


class Case(unittest.TestCase):
    def does(self, keeper, deed):
        """The deed tells, and comes to, what the words say; tells what it told."""
        ahead = (keeper.its_block(), keeper.its_level())
        made = keeper.made()
        after = behind(*ahead, deed)
        handed = repr(deed)
        told = done(keeper, deed)
        self.assertEqual(repr(deed), handed)
        assert_told(self, told, ahead, after)
        self.assertEqual(keeper.made(), made + len(told))
        self.assertIs(is_block(keeper.its_block()), True)
        assert_stands(self, keeper, *after)
        return told

    def refuses(self, keeper, deed, error, field, told):
        """The deed is refused with this error and this in its field; nothing is changed."""
        ahead, made, log = stands(keeper), keeper.made(), keeper.log()
        with self.assertRaises(error) as caught:
            done(keeper, deed)
        self.assertIs(type(caught.exception), error)
        self.assertEqual(getattr(caught.exception, field), told)
        self.assertIs(type(getattr(caught.exception, field)), type(told))
        self.assertEqual((stands(keeper), keeper.made(), keeper.log()), (ahead, made, log))


class AnyRow(Case):
    def test_rows_of_deeds(self):
        picked = random.Random(3)
        words = {"renumber": 0, "relevel": 0, "cut": 0, "heal": 0}
        some = 0
        for block in sample_blocks(corners):
            keeper = Keeper(block, 0)
            for _ in range(10):
                deed = some_deed(picked, keeper.its_block())
                told = self.does(keeper, deed)
                words[deed[0]] += 1
                some += 0 < len(told) < len(cells(keeper.its_block()[0]))
        self.assertGreater(min(words.values()), 10)
        self.assertGreater(some, 20)

    def test_far_numbers(self):
        picked = random.Random(4)
        for block in list(sample_blocks(corners, spread=9999))[:6]:
            keeper = Keeper(block, 0)
            for _ in range(5):
                self.does(keeper, some_deed(picked, keeper.its_block(), spread=9999))


class Renumber(Case):
    def test_one_cell(self):
        keeper = Keeper((CELL, (0,) * 8), 1)
        self.assertEqual(self.does(keeper, ("renumber", (4, 0, 4), 3)), (WHOLE,))
        self.assertEqual(keeper.its_block(), (CELL, (0, 0, 0, 0, 0, 3, 0, 0)))

    def test_cells_of_the_corner_only(self):
        keeper = Keeper(block_of(ROW, corners, lambda corner: 0), 1)
        self.assertEqual(self.does(keeper, ("renumber", (0, 0, 0), 9)), (WHOLE,))
        self.assertEqual(self.does(keeper, ("renumber", (8, 4, 0), 9)), (((4, 0, 0), 4), ((8, 0, 0), 4)))

    def test_a_worth_that_changes_no_kind(self):
        # No cycle changes, but a worth does, and knots lie elsewhere.
        keeper = Keeper((CELL, (0,) * 8), 9)
        self.assertEqual(self.does(keeper, ("renumber", (0, 0, 0), 1)), (WHOLE,))
        self.assertEqual(keeper.its_skin(), ())

    def test_the_same_number(self):
        for block in sample_blocks(corners):
            keeper = Keeper(block, 0)
            for corner, number in list(zip(corners(block[0]), block[1]))[::9]:
                self.assertEqual(keeper.renumber(corner, number), ())
            assert_stands(self, keeper, block, 0)
            self.assertEqual(keeper.made(), len(cells(block[0])))

    def test_a_corner_in_a_midst(self):
        grid = ((2, 1, 1), ((1, 0, 0),))
        keeper = Keeper(block_of(grid, corners, lambda corner: 0), 1)
        self.assertEqual(
            self.does(keeper, ("renumber", (4, 2, 0), 5)), (WHOLE, ((4, 0, 0), 2), ((4, 2, 0), 2)))
        # The corner in the midst of the other face's side, or within the split place.
        self.assertEqual(self.does(keeper, ("renumber", (8, 4, 4), 5)), (((6, 2, 2), 2),))
        self.assertEqual(len(self.does(keeper, ("renumber", (6, 2, 2), 5))), 8)

    def test_a_corner_on_an_edge_beside_a_split_place(self):
        # Places that meet the split one by an edge only have its midst going round their faces.
        grid = ((2, 2, 1), ((0, 0, 0),))
        keeper = Keeper(block_of(grid, corners, lambda corner: 0), 1)
        told = self.does(keeper, ("renumber", (4, 4, 2), 5))
        self.assertIn(((4, 4, 0), 4), told)
        self.assertEqual(len(told), 5)

    def test_the_ends_of_the_range(self):
        keeper = Keeper((CELL, (0,) * 8), 1)
        for number in (9999, -9999, 9998, 0):
            self.does(keeper, ("renumber", (0, 0, 0), number))
        for number in (10000, -10000, 10 ** 39, -10 ** 39):
            self.refuses(keeper, ("renumber", (0, 0, 0), number), Outside, "what", number)

    def test_no_point(self):
        grid = ((2, 1, 1), ((1, 0, 0),))
        keeper = Keeper(block_of(grid, corners, lambda corner: 0), 1)
        for corner in (
            (2, 2, 2), (0, 2, 2), (0, 0, 2), (5, 1, 1), (4, 1, 1), (-4, 0, 0), (12, 0, 0), (0, 0, 8), (1, 0, 0),
            (8, 4, 5), (0, 0, 10 ** 39),
        ):
            self.refuses(keeper, ("renumber", corner, 5), NoPoint, "point", corner)
            # Two refusals are due: the point's is first.
            self.refuses(keeper, ("renumber", corner, 10000), NoPoint, "point", corner)

    def test_corners_that_come_and_go(self):
        keeper = Keeper((CELL, (0,) * 8), 1)
        self.refuses(keeper, ("renumber", (2, 2, 2), 5), NoPoint, "point", (2, 2, 2))
        keeper.cut((0, 0, 0), (0,) * 19)
        self.does(keeper, ("renumber", (2, 2, 2), 5))
        keeper.heal((0, 0, 0))
        self.refuses(keeper, ("renumber", (2, 2, 2), 5), NoPoint, "point", (2, 2, 2))


class Relevel(Case):
    def test_cells_between_both_levels_only(self):
        keeper = Keeper(block_of(ROW, corners, lambda corner: 5 if corner == (12, 0, 4) else -99), 5)
        self.assertEqual(self.does(keeper, ("relevel", 6)), (((8, 0, 0), 4),))
        self.assertEqual(self.does(keeper, ("relevel", 7)), ())
        self.assertEqual(self.does(keeper, ("relevel", 5)), (((8, 0, 0), 4),))
        self.assertEqual(self.does(keeper, ("relevel", -9999)), (WHOLE, ((4, 0, 0), 4), ((8, 0, 0), 4)))

    def test_the_same_level(self):
        for block in sample_blocks(corners):
            keeper = Keeper(block, 0)
            self.assertEqual(keeper.relevel(0), ())
            self.assertEqual(keeper.made(), len(cells(block[0])))

    def test_the_ends_of_the_range(self):
        keeper = Keeper((CELL, (0,) * 8), 1)
        for level in (9999, -9999, 0, 1):
            self.does(keeper, ("relevel", level))
        for level in (10000, -10000, 10 ** 39, -10 ** 39):
            self.refuses(keeper, ("relevel", level), Outside, "what", level)


class Cut(Case):
    def test_one_cell(self):
        keeper = Keeper((CELL, (0, 1, 2, 3, 4, 5, 6, 7)), 4)
        fresh = new_corners(CELL, (0, 0, 0))
        self.assertEqual(len(fresh), 19)
        told = self.does(keeper, ("cut", (0, 0, 0), list(range(100, 119))))
        self.assertEqual(told, cells(all_split((1, 1, 1))))
        grid, numbers = keeper.its_block()
        self.assertEqual(grid, ((1, 1, 1), ((0, 0, 0),)))
        number_at = dict(zip(corners(grid), numbers))
        self.assertEqual([number_at[corner] for corner in fresh], list(range(100, 119)))
        self.assertEqual([number_at[corner] for corner in corners(CELL)], list(range(8)))

    def test_lists_and_tuples(self):
        told = []
        for kind in (list, tuple):
            keeper = Keeper((CELL, (0,) * 8), 4)
            numbers = kind(range(19))
            told.append((keeper.cut((0, 0, 0), numbers), keeper.its_block()))
            self.assertEqual(numbers, kind(range(19)))
            self.assertIs(is_block(keeper.its_block()), True)
        self.assertEqual(told[0], told[1])

    def test_a_list_that_is_changed_afterwards(self):
        keeper = Keeper((CELL, (0,) * 8), 4)
        numbers = [1] * 19
        keeper.cut((0, 0, 0), numbers)
        ahead = stands(keeper)
        numbers[:] = [5]
        self.assertEqual(stands(keeper), ahead)

    def test_places_beside_it(self):
        # The next place has other faces, the last one nothing new.
        keeper = Keeper(block_of(ROW, corners, lambda corner: 0), 0)
        fresh = [0] * len(new_corners(ROW, (0, 0, 0)))
        told = self.does(keeper, ("cut", (0, 0, 0), fresh))
        self.assertEqual(told, tuple(sorted(cells(((1, 1, 1), ((0, 0, 0),))) + (((4, 0, 0), 4),))))

    def test_places_across_an_edge_and_across_a_corner(self):
        # By an edge a midst comes into the ring of a face; by a corner nothing new comes.
        grid = ((2, 2, 2), ())
        keeper = Keeper(block_of(grid, corners, lambda corner: 0), 0)
        told = self.does(keeper, ("cut", (0, 0, 0), [0] * 19))
        self.assertIn(((4, 4, 0), 4), told)
        self.assertNotIn(((4, 4, 4), 4), told)
        self.assertEqual(len(told), 8 + 6)

    def test_beside_split_places(self):
        # Corners on the common face stand already: only fourteen come new.
        grid = ((2, 1, 1), ((1, 0, 0),))
        keeper = Keeper(block_of(grid, corners, lambda corner: sum(corner)), 5)
        self.assertEqual(len(new_corners(grid, (0, 0, 0))), 14)
        told = self.does(keeper, ("cut", (0, 0, 0), [7] * 14))
        # The split place's own cells have the wedges that they had.
        self.assertEqual(told, cells(((1, 1, 1), ((0, 0, 0),))))
        number_at = dict(zip(corners(keeper.its_block()[0]), keeper.its_block()[1]))
        self.assertEqual(number_at[4, 2, 2], 8)

    def test_between_two_split_places(self):
        # Only what lies across the midst comes new: the box's own middle, and eight points on its sides.
        grid = ((1, 1, 3), ((0, 0, 0), (0, 0, 2)))
        self.assertEqual(len(new_corners(grid, (0, 0, 1))), 9)
        keeper = Keeper(block_of(grid, corners, lambda corner: corner[0] - corner[2]), -3)
        self.assertEqual(len(self.does(keeper, ("cut", (0, 0, 1), list(range(9))))), 8)

    def test_how_many_come(self):
        for grid in list(sample_grids())[::3]:
            keeper = Keeper(block_of(grid, corners, lambda corner: 0), 0)
            for place in [place for place in places(grid[0]) if place not in grid[1]][:2]:
                many = len(new_corners(grid, place))
                for count in (0, many - 1, many + 1, 125):
                    self.refuses(keeper, ("cut", place, [0] * count), Outside, "what", count)
                keeper.cut(place, (0,) * many)
                keeper.back()

    def test_no_place(self):
        keeper = Keeper(block_of(((2, 1, 1), ((1, 0, 0),)), corners, lambda corner: 0), 0)
        for place in ((2, 0, 0), (0, 1, 0), (0, 0, 1), (-1, 0, 0), (0, 0, -1), (4, 0, 0), (10 ** 39, 0, 0)):
            for numbers in ([0] * 14, [], [10000] * 14, [10000]):
                self.refuses(keeper, ("cut", place, numbers), NoPlace, "place", place)

    def test_doubled(self):
        keeper = Keeper(block_of(((2, 1, 1), ((1, 0, 0),)), corners, lambda corner: 0), 0)
        for numbers in ([], [0] * 14, [0] * 19, [10000], (10000,) * 14):
            self.refuses(keeper, ("cut", (1, 0, 0), numbers), Doubled, "place", (1, 0, 0))

    def test_outside(self):
        keeper = Keeper((CELL, (0,) * 8), 0)
        # How many there are is asked ahead of what they are.
        for numbers in ([], [0] * 18, (0,) * 20, [10000] * 18, (10000,), [-10000] * 20):
            self.refuses(keeper, ("cut", (0, 0, 0), numbers), Outside, "what", len(numbers))
        for at in (0, 7, 18):
            for number in (10000, -10000, 10 ** 39):
                numbers = [0] * 19
                numbers[at] = number
                self.refuses(keeper, ("cut", (0, 0, 0), numbers), Outside, "what", number)
                self.refuses(keeper, ("cut", (0, 0, 0), tuple(numbers)), Outside, "what", number)
        # The first of several.
        numbers = [9999] * 5 + [-10001] + [0] * 5 + [10002] * 8
        self.refuses(keeper, ("cut", (0, 0, 0), numbers), Outside, "what", -10001)
        self.does(keeper, ("cut", (0, 0, 0), [9999, -9999] + [0] * 17))


class Heal(Case):
    def test_one_cell(self):
        grid = all_split((1, 1, 1))
        block = block_of(grid, corners, lambda corner: corner[0] * 10 + corner[1] - corner[2])
        keeper = Keeper(block, 4)
        self.assertEqual(self.does(keeper, ("heal", (0, 0, 0))), (WHOLE,))
        self.assertEqual(keeper.its_block(), (CELL, (0, -4, 4, 0, 40, 36, 44, 40)))

    def test_beside_split_places(self):
        # The corners on the common face stay, with their numbers: the split place's cells have them.
        grid = all_split((2, 1, 1))
        keeper = Keeper(block_of(grid, corners, lambda corner: 100 * corner[0] + 10 * corner[1] + corner[2]), 300)
        told = self.does(keeper, ("heal", (0, 0, 0)))
        self.assertEqual(told, (WHOLE,))
        number_at = dict(zip(corners(keeper.its_block()[0]), keeper.its_block()[1]))
        self.assertEqual(number_at[4, 2, 2], 422)
        self.assertNotIn((2, 2, 2), number_at)
        told = self.does(keeper, ("heal", (1, 0, 0)))
        self.assertEqual(told, (WHOLE, ((4, 0, 0), 4)))
        self.assertEqual(len(keeper.its_block()[1]), 12)

    def test_a_midst_that_another_place_keeps(self):
        # Both split places lie along one edge, across from one another.
        grid = ((2, 2, 1), ((0, 0, 0), (1, 1, 0)))
        keeper = Keeper(block_of(grid, corners, lambda corner: sum(corner)), 5)
        told = self.does(keeper, ("heal", (0, 0, 0)))
        number_at = dict(zip(corners(keeper.its_block()[0]), keeper.its_block()[1]))
        self.assertIn((4, 4, 2), number_at)
        self.assertNotIn((4, 2, 2), number_at)
        self.assertEqual(told, (WHOLE, ((0, 4, 0), 4), ((4, 0, 0), 4)))

    def test_a_midst_that_goes(self):
        grid = ((2, 2, 1), ((0, 0, 0),))
        keeper = Keeper(block_of(grid, corners, lambda corner: sum(corner)), 5)
        told = self.does(keeper, ("heal", (0, 0, 0)))
        self.assertEqual(told, cells(((2, 2, 1), ())))

    def test_cut_and_healed(self):
        for block in sample_blocks(corners):
            keeper = Keeper(block, 0)
            for place in [place for place in places(block[0][0]) if place not in block[0][1]][:3]:
                self.does(keeper, ("cut", place, [1] * len(new_corners(block[0], place))))
                self.does(keeper, ("heal", place))
                assert_stands(self, keeper, block, 0)

    def test_no_place(self):
        keeper = Keeper(block_of(((2, 1, 1), ((1, 0, 0),)), corners, lambda corner: 0), 0)
        for place in ((2, 0, 0), (0, 1, 0), (0, 0, 1), (-1, 0, 0), (4, 0, 0), (10 ** 39, 0, 0)):
            self.refuses(keeper, ("heal", place), NoPlace, "place", place)

    def test_doubled(self):
        keeper = Keeper(block_of(((2, 1, 1), ((1, 0, 0),)), corners, lambda corner: 0), 0)
        self.refuses(keeper, ("heal", (0, 0, 0)), Doubled, "place", (0, 0, 0))
        keeper.heal((1, 0, 0))
        self.refuses(keeper, ("heal", (1, 0, 0)), Doubled, "place", (1, 0, 0))


class MadeAnew(Case):
    def test_the_others_are_kept(self):
        # What wasn't told has the cycles that it had.
        picked = random.Random(5)
        seen = 0
        for block in sample_blocks(corners):
            keeper = Keeper(block, 0)
            for _ in range(4):
                ahead = {cell: keeper.its_cycles(cell) for cell in cells(keeper.its_block()[0])}
                told = done(keeper, some_deed(picked, keeper.its_block()))
                for cell in cells(keeper.its_block()[0]):
                    if cell not in told:
                        self.assertEqual(keeper.its_cycles(cell), ahead[cell])
                        seen += 1
        self.assertGreater(seen, 100)

    def test_the_words_tell_all_of_unlike_meshes(self):
        # The words themselves, by one example: nothing is as it was where all numbers change.
        one, other = block_of(ROW, corners, lambda corner: 0), block_of(ROW, corners, lambda corner: 1)
        self.assertEqual(made_anew((one, 0), (other, 0)), cells(ROW))
        self.assertEqual(made_anew((one, 0), (one, 0)), ())
        self.assertEqual(made_anew((one, 0), (one, 1)), cells(ROW))


if __name__ == "__main__":
    unittest.main()
