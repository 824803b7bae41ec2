"""[4] to [6]: grids, cells, corners, faces, going round."""

import unittest
from itertools import product

from levelskins.grids import cells, corners, faces, faces_of, is_grid, round_of
from tests.samples import (
    ALL_SIZES, asked, assert_rising, is_three, odd_things, places, sample_grids, variants,
)


def grid_by_words(thing):
    """The words of [4], written out once more."""
    if type(thing) is not tuple or len(thing) != 2:
        return False
    sizes, split = thing
    if not is_three(sizes) or sizes not in ALL_SIZES:
        return False
    if type(split) is not tuple or not all(is_three(place) for place in split):
        return False
    return all(place in places(sizes) for place in split) and split == tuple(sorted(set(split)))


def inside(point, low, side):
    return all(start <= number <= start + side for number, start in zip(point, low))


def squares(cell):
    """The six squares of a cube, each (lowest point, side, axis)."""
    low, side = cell
    for axis in range(3):
        for by in (0, side):
            yield (low[:axis] + (low[axis] + by,) + low[axis + 1:], side, axis)


def lies_in(small, great):
    """Whether one square is a part of the other."""
    flat = [side if axis != great[2] else 0 for axis, side in enumerate((great[1],) * 3)]
    return small[2] == great[2] and all(
        start <= number <= start + reach - (small[1] if reach else 0)
        for number, start, reach in zip(small[0], great[0], flat)
    )


def faces_by_words(grid, cell):
    """Each square, or those of the finer cells beside it that lie in it."""
    told = []
    finer = [square for other in cells(grid) if other[1] < cell[1] for square in squares(other)]
    for square in squares(cell):
        parts = {small for small in finer if lies_in(small, square)}
        told += sorted(parts) if parts else [square]
    return tuple(sorted(told))


def way_round(face, point):
    """How far one goes from the face's lowest point to this one, or None where it isn't on the way."""
    low, side, axis = face
    lesser, greater = [other for other in range(3) if other != axis]
    u, v = point[lesser] - low[lesser], point[greater] - low[greater]
    if point[axis] != low[axis] or not (0 <= u <= side and 0 <= v <= side):
        return None
    if v == 0:
        return u
    if u == side:
        return side + v
    if v == side:
        return 3 * side - u
    return 4 * side - v if u == 0 else None


class IsGrid(unittest.TestCase):
    def test_grids(self):
        for grid in sample_grids():
            self.assertIs(asked(self, is_grid, grid), True, grid)

    def test_every_split_of_four_places(self):
        whole = places((2, 1, 2))
        for mask in product((0, 1), repeat=4):
            split = tuple(place for place, picked in zip(whole, mask) if picked)
            self.assertIs(is_grid(((2, 1, 2), split)), True)

    def test_sizes_out_of_range(self):
        for sizes in product(range(-1, 6), repeat=3):
            self.assertIs(is_grid((sizes, ())), sizes in ALL_SIZES, sizes)
        for sizes in ((), (1,), (1, 1), (1, 1, 1, 1), (3, 3, 1), (2, 2, 3), (4, 1, 1), (1, 0, 1)):
            self.assertIs(is_grid((sizes, ())), False, sizes)

    def test_split_places(self):
        for split in (
            ((1, 0, 0), (0, 0, 0)), ((0, 0, 0), (0, 0, 0)), ((2, 0, 0),), ((0, 1, 0),), ((0, 0, -1),), ((0, 0),),
            ((0, 0, 0, 0),), (0, 0, 0), ((0, 0, 0), None), (None,), ("000",), ((0, 0, "0"),),
        ):
            self.assertIs(is_grid(((2, 1, 1), split)), False, split)

    def test_lists_and_truths(self):
        for thing in (
            [(1, 1, 1), ()], ([1, 1, 1], ()), ((1, 1, 1), []), ((1, 1, 1), [(0, 0, 0)]), ((1, 1, 1), ([0, 0, 0],)),
            ((True, 1, 1), ()), ((1, 1, True), ()), ((1, 1, 1), ((False, 0, 0),)), ((2, 1, 1), ((True, 0, 0),)),
        ):
            self.assertIs(is_grid(thing), False, thing)

    def test_things_of_any_kind(self):
        for thing in odd_things():
            self.assertIs(asked(self, is_grid, thing), grid_by_words(thing))

    def test_grids_with_a_part_changed(self):
        for grid in (((1, 1, 1), ()), ((2, 1, 3), ((0, 0, 1), (1, 0, 2))), ((2, 2, 2), places((2, 2, 2)))):
            for thing in variants(grid):
                self.assertIs(is_grid(thing), grid_by_words(thing), thing)


class Cells(unittest.TestCase):
    def test_one_place(self):
        self.assertEqual(cells(((1, 1, 1), ())), (((0, 0, 0), 4),))
        self.assertEqual(
            cells(((1, 1, 1), ((0, 0, 0),))), tuple((low, 2) for low in product((0, 2), repeat=3))
        )

    def test_a_split_place_beside_a_whole_one(self):
        told = cells(((1, 2, 1), ((0, 0, 0),)))
        self.assertEqual(len(told), 9)
        self.assertIn(((0, 4, 0), 4), told)
        self.assertEqual(told[0], ((0, 0, 0), 2))

    def test_by_words(self):
        for grid in sample_grids():
            told = asked(self, cells, grid)
            assert_rising(self, told)
            wanted = set()
            for place in places(grid[0]):
                low = tuple(4 * number for number in place)
                if place in grid[1]:
                    wanted |= {(tuple(map(sum, zip(low, by))), 2) for by in product((0, 2), repeat=3)}
                else:
                    wanted.add((low, 4))
            self.assertEqual(set(told), wanted)


class Corners(unittest.TestCase):
    def test_one_place(self):
        self.assertEqual(corners(((1, 1, 1), ())), tuple(product((0, 4), repeat=3)))
        self.assertEqual(corners(((1, 1, 1), ((0, 0, 0),))), tuple(product((0, 2, 4), repeat=3)))

    def test_by_words(self):
        for grid in sample_grids():
            told = asked(self, corners, grid)
            assert_rising(self, told)
            wanted = {
                tuple(map(sum, zip(low, by))) for low, side in cells(grid) for by in product((0, side), repeat=3)
            }
            self.assertEqual(set(told), wanted)


class Faces(unittest.TestCase):
    def test_six_squares(self):
        cube = ((0, 0, 0), 4)
        self.assertEqual(faces_of(((1, 1, 1), ()), cube), (
            ((0, 0, 0), 4, 0), ((0, 0, 0), 4, 1), ((0, 0, 0), 4, 2), ((0, 0, 4), 4, 2), ((0, 4, 0), 4, 1),
            ((4, 0, 0), 4, 0),
        ))

    def test_four_squares_beside_a_split_place(self):
        grid = ((2, 1, 1), ((1, 0, 0),))
        told = faces_of(grid, ((0, 0, 0), 4))
        self.assertEqual(len(told), 9)
        self.assertEqual(
            [face for face in told if face[1] == 2], [((4, y, z), 2, 0) for y in (0, 2) for z in (0, 2)]
        )
        self.assertNotIn(((4, 0, 0), 4, 0), told)
        self.assertEqual([len(faces_of(grid, cell)) for cell in cells(grid) if cell[1] == 2], [6] * 8)

    def test_whole_places_behind_a_side_only_change_nothing(self):
        told = faces_of(((2, 2, 1), ((1, 1, 0),)), ((0, 0, 0), 4))
        self.assertEqual({face[1] for face in told}, {4})

    def test_by_words(self):
        for grid in sample_grids():
            every = set()
            for cell in cells(grid):
                told = asked(self, faces_of, grid, cell)
                assert_rising(self, told)
                self.assertEqual(told, faces_by_words(grid, cell))
                every |= set(told)
            told = asked(self, faces, grid)
            assert_rising(self, told)
            self.assertEqual(set(told), every)


class RoundOf(unittest.TestCase):
    def test_along_the_lesser_axis_first(self):
        grid = ((1, 1, 1), ())
        self.assertEqual(round_of(grid, ((0, 0, 0), 4, 0)), ((0, 0, 0), (0, 4, 0), (0, 4, 4), (0, 0, 4)))
        self.assertEqual(round_of(grid, ((0, 4, 0), 4, 1)), ((0, 4, 0), (4, 4, 0), (4, 4, 4), (0, 4, 4)))
        self.assertEqual(round_of(grid, ((0, 0, 4), 4, 2)), ((0, 0, 4), (4, 0, 4), (4, 4, 4), (0, 4, 4)))

    def test_a_face_of_side_2(self):
        grid = ((2, 1, 1), ((1, 0, 0),))
        self.assertEqual(round_of(grid, ((4, 2, 0), 2, 0)), ((4, 2, 0), (4, 4, 0), (4, 4, 2), (4, 2, 2)))

    def test_corners_in_the_midst_of_sides(self):
        grid = ((2, 1, 1), ((1, 0, 0),))
        self.assertEqual(
            round_of(grid, ((0, 0, 0), 4, 2)), ((0, 0, 0), (4, 0, 0), (4, 2, 0), (4, 4, 0), (0, 4, 0))
        )

    def test_a_split_place_that_meets_the_face_along_a_side_only(self):
        grid = ((2, 2, 1), ((1, 1, 0),))
        self.assertEqual(
            round_of(grid, ((4, 0, 0), 4, 0)), ((4, 0, 0), (4, 4, 0), (4, 4, 2), (4, 4, 4), (4, 0, 4))
        )

    def test_a_split_place_that_meets_the_face_in_a_point_only(self):
        grid = ((2, 2, 2), ((1, 1, 1),))
        for face in faces_of(grid, ((0, 0, 0), 4)):
            self.assertEqual(len(round_of(grid, face)), 4)

    def test_three_sides(self):
        grid = ((3, 2, 1), ((0, 0, 0), (1, 1, 0), (2, 0, 0)))
        self.assertEqual(round_of(grid, ((4, 0, 4), 4, 2)), (
            (4, 0, 4), (8, 0, 4), (8, 2, 4), (8, 4, 4), (6, 4, 4), (4, 4, 4), (4, 2, 4),
        ))

    def test_by_words(self):
        lengths = set()
        for grid in sample_grids():
            known = corners(grid)
            for face in faces(grid):
                told = asked(self, round_of, grid, face)
                wanted = [point for point in known if way_round(face, point) is not None]
                self.assertEqual(told, tuple(sorted(wanted, key=lambda point: way_round(face, point))))
                lengths.add(len(told))
        self.assertLessEqual({4, 5, 6}, lengths)
        self.assertLessEqual(lengths, {4, 5, 6, 7, 8})


if __name__ == "__main__":
    unittest.main()
