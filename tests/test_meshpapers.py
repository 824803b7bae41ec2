"""[8]: mesh_holds and mates."""

import random
import unittest
from collections import Counter
from itertools import combinations, permutations, product

from levelskins.mesh import triangles, turn, wedges
from levelskins.meshpapers import mates, mesh_holds
from tests.samples import (
    ALL_SIZES, asked, assert_rising, few_grids, is_point_in, odd_things, on_one_side, places, sample_grids, variants,
)

EVEN = [order for order in permutations(range(4)) if sum(a > b for a, b in combinations(order, 2)) % 2 == 0]


def holds_by_words(sizes, thing):
    """The words of [8], written out once more."""
    if type(thing) is not tuple or len(thing) > 2000:
        return False
    for four in thing:
        if type(four) is not tuple or len(four) != 4 or not all(is_point_in(sizes, point) for point in four):
            return False
        if turn(four) <= 0:
            return False
    if len(set(thing)) < len(thing):
        return False
    having = {}
    for four in thing:
        for fourth in four:
            having.setdefault(frozenset(four) - {fourth}, []).append(fourth)
    for triple, fourths in having.items():
        if len(fourths) > 2 or (len(fourths) == 1 and not on_one_side(sizes, triple)):
            return False
        signs = Counter(turn((*sorted(triple), fourth)) > 0 for fourth in fourths)
        if max(signs.values()) > 1:
            return False
    return sum(turn(four) for four in thing) == 6 * 64 * sizes[0] * sizes[1] * sizes[2]


def upright(four):
    return four if turn(four) > 0 else (four[1], four[0]) + four[2:]


def six_in_each(sizes):
    """Another mesh: each cube of side 4 cut into six along its long diagonal."""
    told = []
    for place in places(sizes):
        for order in permutations(range(3)):
            point = [4 * number for number in place]
            way = [tuple(point)]
            for axis in order:
                point[axis] += 4
                way.append(tuple(point))
            told.append(upright(tuple(way)))
    return tuple(told)


def cube_skin(crossed):
    """The sides of the cube of side 4 as twelve triangles, each square cut along one or the other diagonal."""
    told = []
    for axis in range(3):
        for end in (0, 4):
            ring = [low[:axis] + (end,) + low[axis:] for low in ((0, 0), (4, 0), (4, 4), (0, 4))]
            if crossed:
                ring = ring[1:] + ring[:1]
            told += [(ring[0], ring[1], ring[2]), (ring[0], ring[2], ring[3])]
    return told


def cone(tip, crossed):
    """The cube of side 4 as twelve, all of which meet in the tip."""
    return tuple(upright((tip, *triangle)) for triangle in cube_skin(crossed))


def with_edge_halved(told, one, other):
    """The same mesh with one more point, in the midst of a tie."""
    midst = tuple((a + b) // 2 for a, b in zip(one, other))
    new = []
    for four in told:
        if one in four and other in four:
            new += [tuple(midst if point == end else point for point in four) for end in (one, other)]
        else:
            new.append(four)
    return tuple(new)


def edges_of_two():
    """Pairs of even points of the box of sizes 2, 2, 2 that lie 2 apart, those along most wedges first."""
    told = []
    for axis in range(3):
        for start, one, other in product((0, 2, 4, 6), (0, 2, 4, 6, 8), (0, 2, 4, 6, 8)):
            low = [one, other]
            low.insert(axis, start)
            high = list(low)
            high[axis] += 2
            told.append(((one in (0, 8)) + (other in (0, 8)), tuple(low), tuple(high)))
    return [(low, high) for _, low, high in sorted(told)]


def filled_up(told, count):
    """The same mesh with edges halved until it has so many wedges."""
    for one, other in edges_of_two():
        more = sum(one in four and other in four for four in told)
        if more <= count - len(told):
            told = with_edge_halved(told, one, other)
    return told


class Holds(unittest.TestCase):
    def test_of_grids(self):
        for grid in sample_grids():
            self.assertIs(mesh_holds(grid[0], wedges(grid)), True, grid)

    def test_in_any_order(self):
        picked = random.Random(3)
        for sizes, split in few_grids():
            told = list(wedges((sizes, split)))
            picked.shuffle(told)
            told = tuple(tuple(four[at] for at in picked.choice(EVEN)) for four in told)
            self.assertIs(asked(self, mesh_holds, sizes, told), True)

    def test_of_other_meshes(self):
        for sizes in ALL_SIZES:
            self.assertIs(mesh_holds(sizes, six_in_each(sizes)), True)
        for tip in ((1, 1, 1), (2, 2, 2), (3, 1, 2)):
            for crossed in (False, True):
                self.assertIs(mesh_holds((1, 1, 1), cone(tip, crossed)), True)

    def test_with_one_more_point_within(self):
        told = six_in_each((1, 1, 1))
        first, tip = told[0], tuple(sum(numbers) // 4 for numbers in zip(*told[0]))
        four = tuple(first[:at] + (tip,) + first[at + 1:] for at in range(4))
        self.assertIs(mesh_holds((1, 1, 1), four + told[1:]), True)

    def test_two_thousand_at_the_most(self):
        whole = places((2, 2, 2))
        even = wedges(((2, 2, 2), whole))
        # Five wedges lie round the tie between a whole cell's middle and that of a face on the rim.
        odd = with_edge_halved(wedges(((2, 2, 2), whole[:-2])), (6, 6, 2), (8, 6, 2))
        for start, count in ((odd, 1999), (even, 2000), (odd, 2001), (even, 2002)):
            told = filled_up(start, count)
            self.assertEqual(len(told), count)
            self.assertIs(mesh_holds((2, 2, 2), told), count <= 2000)


class HoldsNot(unittest.TestCase):
    def test_one_left_out_or_twice(self):
        for sizes, split in few_grids():
            told = wedges((sizes, split))
            for at in range(0, len(told), 41):
                self.assertIs(mesh_holds(sizes, told[:at] + told[at + 1:]), False)
                self.assertIs(mesh_holds(sizes, told + told[at:at + 1]), False)
                self.assertIs(mesh_holds(sizes, told[:at] + told[at:at + 1] + told[at:]), False)

    def test_one_twice_in_another_order(self):
        told = wedges(((1, 1, 1), ()))
        for order in EVEN[1:]:
            again = tuple(told[0][at] for at in order)
            self.assertIs(mesh_holds((1, 1, 1), told + (again,)), False)

    def test_a_turn_below_0(self):
        told = wedges(((1, 1, 1), ()))
        for at, (m, f, p, q) in enumerate(told):
            self.assertIs(mesh_holds((1, 1, 1), told[:at] + ((m, f, q, p),) + told[at + 1:]), False)

    def test_turns_below_0_that_make_up_for_others(self):
        # The box filled three times, once with turns below 0: all else is as it must be.
        back = tuple((m, f, q, p) for m, f, p, q in wedges(((1, 1, 1), ())))
        told = cone((1, 1, 1), False) + cone((3, 1, 2), True) + back
        self.assertEqual(sum(turn(four) for four in told), 6 * 64)
        self.assertIs(mesh_holds((1, 1, 1), told), False)

    def test_all_turns_below_0(self):
        self.assertIs(mesh_holds((1, 1, 1), tuple((m, f, q, p) for m, f, p, q in wedges(((1, 1, 1), ())))), False)

    def test_a_flat_one(self):
        flat = ((0, 0, 0), (4, 0, 0), (4, 4, 0), (0, 4, 0))
        self.assertIs(mesh_holds((1, 1, 1), six_in_each((1, 1, 1)) + (flat,)), False)

    def test_a_point_moved(self):
        told = six_in_each((1, 2, 1))
        for at, four in enumerate(told):
            for place in range(4):
                for axis in range(3):
                    for by in (-1, 1):
                        point = list(four[place])
                        point[axis] += by
                        new = four[:place] + (tuple(point),) + four[place + 1:]
                        self.assertIs(mesh_holds((1, 2, 1), told[:at] + (new,) + told[at + 1:]), False)

    def test_all_beyond_the_box(self):
        told = tuple(tuple((x + 1, y, z) for x, y, z in four) for four in six_in_each((1, 1, 1)))
        self.assertIs(mesh_holds((1, 1, 1), told), False)
        told = tuple(tuple((x - 4, y, z) for x, y, z in four) for four in six_in_each((1, 1, 1)))
        self.assertIs(mesh_holds((1, 1, 1), told), False)

    def test_three_points_among_three(self):
        # One cube filled thrice has as much turn as the box of three cubes.
        told = cone((1, 1, 1), False) + cone((2, 2, 2), False) + cone((3, 3, 3), False)
        self.assertEqual(sum(turn(four) for four in told), 6 * 64 * 3)
        self.assertIs(mesh_holds((3, 1, 1), told), False)

    def test_both_fourth_points_on_one_side(self):
        # One cube filled twice, along the same triangles, has as much turn as the box of two cubes.
        told = cone((1, 1, 1), False) + cone((2, 2, 2), False)
        self.assertEqual(sum(turn(four) for four in told), 6 * 64 * 2)
        self.assertIs(mesh_holds((2, 1, 1), told), False)

    def test_alone_but_not_on_the_rim(self):
        # Filled twice along other triangles: each is alone, but those across the box are not on the rim.
        told = cone((1, 1, 1), False) + cone((2, 2, 2), True)
        self.assertEqual(sum(turn(four) for four in told), 6 * 64 * 2)
        self.assertIs(mesh_holds((2, 1, 1), told), False)

    def test_too_much_turn(self):
        # The whole box filled twice: all triangles are as they must be.
        told = cone((1, 1, 1), False) + cone((2, 2, 2), True)
        self.assertIs(mesh_holds((1, 1, 1), told), False)

    def test_too_little_turn(self):
        self.assertIs(mesh_holds((1, 1, 1), ()), False)

    def test_other_sizes(self):
        for sizes in ALL_SIZES:
            for others in ALL_SIZES:
                self.assertIs(mesh_holds(others, six_in_each(sizes)), sizes == others)

    def test_lists_texts_truths_and_none(self):
        told = wedges(((1, 1, 1), ()))
        self.assertIs(mesh_holds((1, 1, 1), list(told)), False)
        self.assertIs(mesh_holds((1, 1, 1), (list(told[0]),) + told[1:]), False)
        m, f, p, q = told[0]
        for part in (list(p), None, "000", True, 0, (), (0, 0), (0, 0, 0, 0), (False, 0, 0), (None, 0, 0), ("0", 0, 0)):
            self.assertIs(mesh_holds((1, 1, 1), ((m, f, part, q),) + told[1:]), False)
        for part in (None, "abcd", True, 0, (), (m, f, p), (m, f, p, q, q)):
            self.assertIs(mesh_holds((1, 1, 1), (part,) + told[1:]), False)
        # Truths are equal to numbers in Python, so this is the same tuple to it, but not to the document.
        for false_for_0 in (True, False):
            told = tuple(
                tuple(tuple(False if number == 0 and false_for_0 else number for number in point) for point in four)
                for four in six_in_each((1, 1, 1))
            )
            self.assertIs(mesh_holds((1, 1, 1), told), not false_for_0)

    def test_things_of_any_kind(self):
        for thing in odd_things():
            for sizes in ((1, 1, 1), (2, 2, 2)):
                self.assertIs(asked(self, mesh_holds, sizes, thing), False)

    def test_a_part_changed(self):
        for sizes, told in (((1, 1, 1), six_in_each((1, 1, 1))), ((1, 1, 1), cone((2, 2, 2), True))):
            for thing in variants(told):
                self.assertIs(mesh_holds(sizes, thing), holds_by_words(sizes, thing), thing)


class Mates(unittest.TestCase):
    def test_a_lone_cell(self):
        told = mates(((1, 1, 1), ()))
        self.assertEqual(len(told), 60)
        self.assertEqual(sum(other is None for _, _, other in told), 24)

    def test_by_words(self):
        for grid in sample_grids():
            told = asked(self, mates, grid)
            assert_rising(self, tuple(row[0] for row in told))
            self.assertEqual(tuple(row[0] for row in told), triangles(grid))
            having = {}
            for wedge in wedges(grid):
                for triple in combinations(sorted(wedge), 3):
                    having.setdefault(triple, []).append(wedge)
            for row in told:
                self.assertIs(type(row), tuple)
                triangle, wedge, other = row
                if other is None:
                    self.assertEqual([wedge], having[triangle])
                    self.assertTrue(on_one_side(grid[0], triangle))
                else:
                    self.assertLess(wedge, other)
                    self.assertEqual([wedge, other], having[triangle])
                    self.assertFalse(on_one_side(grid[0], triangle))


if __name__ == "__main__":
    unittest.main()
