"""[2], [18]: walks by ties, and how often they cross the skin."""

import random
import unittest

from levelskins.grids import corners
from levelskins.mesh import points, ties
from levelskins.walks import crossed, fewest, heights_hold, parted, walk_holds
from tests.samples import (
    all_split, asked, block_of, few_grids, is_int, is_three, known_blocks, odd_things, sample_blocks, variants,
)
from tests.words import kinds_by_words, regions_by_words

CELL = ((1, 1, 1), ())


def neighbours(grid):
    told = {point: [] for point in points(grid)}
    for one, other in ties(grid):
        told[one].append(other)
        told[other].append(one)
    return told


def walk_by_words(grid, thing):
    """The words of [18], written out once more."""
    if type(thing) is not tuple or not thing or not all(is_three(part) for part in thing):
        return False
    if not set(thing) <= set(points(grid)):
        return False
    return all(tuple(sorted(step)) in ties(grid) for step in zip(thing, thing[1:]))


def any_walk(picked, near, start, steps):
    walk = [start]
    for _ in range(steps):
        walk.append(picked.choice(near[walk[-1]]))
    return tuple(walk)


def crossings(kinds, walk):
    return sum(kinds[one] != kinds[other] for one, other in zip(walk, walk[1:]))


def fewest_by_words(kinds, grid, start):
    """How often one must cross to each point, made less as long as some tie allows it."""
    told = dict.fromkeys(kinds, len(kinds))
    told[start] = 0
    changed = True
    while changed:
        changed = False
        for tie in ties(grid):
            for one, other in (tie, tie[::-1]):
                less = told[one] + (kinds[one] != kinds[other])
                if less < told[other]:
                    told[other] = less
                    changed = True
    return told


def heights_by_words(kinds, grid, thing):
    """The words of [18] about heights, written out once more."""
    if type(thing) is not tuple or len(thing) != len(points(grid)) or not all(is_int(part) for part in thing):
        return False
    at = dict(zip(points(grid), thing))
    return all(
        at[one] == at[other] if kinds[one] == kinds[other] else -1 <= at[one] - at[other] <= 1
        for one, other in ties(grid)
    )


def asked_points(block, level):
    """Pairs of points: far apart, next to one another, the same one, of two regions of one kind where there are."""
    whole = points(block[0])
    pairs = [(whole[0], whole[-1]), (whole[-1], whole[-1]), ties(block[0])[len(whole) // 2]]
    return pairs + [(kind[-1][0], kind[0][-1]) for kind in regions_by_words(block, level) if len(kind) > 1]


class WalkHolds(unittest.TestCase):
    def test_one_point(self):
        for grid in few_grids():
            for point in points(grid)[::7]:
                self.assertIs(asked(self, walk_holds, grid, (point,)), True)

    def test_none(self):
        for grid in few_grids():
            self.assertIs(walk_holds(grid, ()), False)
            self.assertIs(walk_holds(grid, []), False)

    def test_walks(self):
        picked = random.Random(1)
        for grid in few_grids():
            near = neighbours(grid)
            for steps in (1, 2, 5, 60):
                walk = any_walk(picked, near, picked.choice(points(grid)), steps)
                self.assertIs(asked(self, walk_holds, grid, walk), True)
                self.assertIs(walk_holds(grid, walk[::-1]), True)
                self.assertIs(walk_holds(grid, walk + walk[-2::-1]), True)

    def test_a_point_twice_one_behind_another(self):
        for grid in few_grids():
            one, other = ties(grid)[0]
            for walk in ((one, one), (one, one, other), (one, other, other), (one, other, other, one)):
                self.assertIs(walk_holds(grid, walk), False)

    def test_no_tie(self):
        for grid in few_grids():
            known = set(ties(grid))
            whole = points(grid)
            picked = random.Random(len(whole))
            for _ in range(40):
                one, other = picked.sample(whole, 2)
                self.assertIs(walk_holds(grid, (one, other)), (min(one, other), max(one, other)) in known)

    def test_points_of_another_mesh(self):
        fine = all_split((1, 1, 1))
        self.assertIs(walk_holds(CELL, ((1, 1, 1),)), False)
        self.assertIs(walk_holds(fine, ((1, 1, 1),)), True)
        self.assertIs(walk_holds(CELL, ((0, 0, 0), (0, 0, 4))), True)
        self.assertIs(walk_holds(fine, ((0, 0, 0), (0, 0, 4))), False)
        for point in ((5, 0, 0), (-4, 0, 0), (4, 4, 8), (1, 2, 3), (10 ** 39, 0, 0)):
            self.assertIs(walk_holds(CELL, (point,)), False)
            self.assertIs(walk_holds(CELL, ((0, 0, 0), point)), False)
            self.assertIs(walk_holds(CELL, (point, (0, 0, 0))), False)

    def test_lists_truths_texts_and_none(self):
        for thing in (
            [(0, 0, 0)], ([0, 0, 0],), ((False, 0, 0),), ((0, 0, 0), (0, False, 4)), ("000",), (None,), None, True,
            "", "abc", 0, (0, 0, 0), ((0, 0),), ((0, 0, 0, 0),), ((0, 0, 0), None), ((0, 0, 0), ()),
            (((0, 0, 0),),), ((0, 0, "0"),),
        ):
            self.assertIs(asked(self, walk_holds, CELL, thing), False, thing)

    def test_things_of_any_kind(self):
        for thing in odd_things():
            for grid in few_grids()[::4]:
                self.assertIs(asked(self, walk_holds, grid, thing), walk_by_words(grid, thing))

    def test_a_part_changed(self):
        for walk in (((0, 0, 0),), ((0, 0, 0), (2, 2, 2), (4, 4, 4), (4, 2, 2), (4, 0, 4))):
            self.assertIs(walk_holds(CELL, walk), True)
            for thing in variants(walk):
                self.assertIs(walk_holds(CELL, thing), walk_by_words(CELL, thing), thing)


class Crossed(unittest.TestCase):
    def test_one_point(self):
        for block in sample_blocks(corners):
            for point in points(block[0])[::20]:
                self.assertEqual(crossed(block, 0, (point,)), 0)

    def test_to_and_fro(self):
        block = (CELL, (1, 0, 0, 0, 0, 0, 0, 1))
        self.assertEqual(crossed(block, 1, ((0, 0, 0), (2, 2, 2))), 1)
        self.assertEqual(crossed(block, 1, ((0, 0, 0), (2, 2, 2), (0, 0, 0), (0, 0, 4))), 3)
        self.assertEqual(crossed(block, 1, ((0, 0, 0), (2, 2, 2), (4, 4, 4))), 2)
        self.assertEqual(crossed(block, 1, ((2, 2, 2), (0, 0, 4), (0, 2, 2))), 0)
        self.assertEqual(crossed(block, 0, ((0, 0, 0), (2, 2, 2), (4, 4, 4))), 0)

    def test_any_walk(self):
        picked = random.Random(6)
        for spread in (1, 3):
            for block in sample_blocks(corners, spread=spread):
                near = neighbours(block[0])
                for level in (-1, 0, 1):
                    kinds = kinds_by_words(block, level)
                    for steps in (0, 1, 2, 9, 40):
                        walk = any_walk(picked, near, picked.choice(points(block[0])), steps)
                        told = asked(self, crossed, block, level, walk)
                        self.assertIs(type(told), int)
                        self.assertEqual(told, crossings(kinds, walk))
                        # [2]: odd just where the ends are of unlike kind.
                        self.assertEqual(told % 2 == 1, kinds[walk[0]] != kinds[walk[-1]])


class Parted(unittest.TestCase):
    def test_way_and_wall(self):
        block = (CELL, (1, 0, 0, 0, 0, 0, 0, 1))
        self.assertEqual(parted(block, 1, (0, 0, 0), (4, 4, 4)), ("wall", ((0, 0, 0),)))
        self.assertEqual(parted(block, 1, (4, 4, 4), (2, 2, 2)), ("wall", ((4, 4, 4),)))
        low = tuple(point for point in points(CELL) if point not in ((0, 0, 0), (4, 4, 4)))
        self.assertEqual(parted(block, 1, (2, 2, 2), (4, 4, 4)), ("wall", low))
        self.assertEqual(parted(block, 1, (2, 2, 2), (0, 0, 4)), ("way", ((2, 2, 2), (0, 0, 4))))

    def test_the_same_point(self):
        for block in sample_blocks(corners):
            for point in points(block[0])[::20]:
                self.assertEqual(parted(block, 0, point, point)[0], "way")
        self.assertEqual(parted((CELL, (1,) + (0,) * 7), 1, (0, 0, 0), (0, 0, 0)), ("way", ((0, 0, 0),)))

    def test_by_words(self):
        found = {"way": 0, "wall": 0, "of like kind": 0}
        for spread in (1, 3):
            for block in sample_blocks(corners, spread=spread):
                for level in (-1, 0, 1):
                    kinds = kinds_by_words(block, level)
                    highs, lows = regions_by_words(block, level)
                    home = {point: region for region in highs + lows for point in region}
                    for one, other in asked_points(block, level):
                        told = asked(self, parted, block, level, one, other)
                        self.assertIs(type(told), tuple)
                        word, proof = told
                        self.assertEqual(word, "way" if home[one] == home[other] else "wall")
                        found[word] += 1
                        if word == "wall":
                            self.assertEqual(proof, home[one])
                            found["of like kind"] += kinds[one] == kinds[other]
                        else:
                            self.assertTrue(walk_holds(block[0], proof))
                            self.assertEqual((proof[0], proof[-1]), (one, other))
                            self.assertEqual(crossings(kinds, proof), 0)
        self.assertGreater(min(found.values()), 10)


class Fewest(unittest.TestCase):
    def assert_fewest(self, block, level, one, other):
        grid, kinds = block[0], kinds_by_words(block, level)
        told = asked(self, fewest, block, level, one, other)
        self.assertIs(type(told), tuple)
        count, walk, heights = told
        self.assertIs(type(count), int)
        self.assertEqual(count, fewest_by_words(kinds, grid, one)[other])
        self.assertTrue(walk_holds(grid, walk))
        self.assertEqual((walk[0], walk[-1]), (one, other))
        self.assertEqual(crossings(kinds, walk), count)
        self.assertTrue(heights_by_words(kinds, grid, heights))
        self.assertIs(heights_hold(block, level, heights), True)
        at = dict(zip(points(grid), heights))
        self.assertEqual((at[one], at[other]), (0, count))
        return count

    def test_of_blocks(self):
        found = {}
        for spread in (1, 3):
            for block in sample_blocks(corners, spread=spread):
                for level in (0, 1):
                    for one, other in asked_points(block, level):
                        count = self.assert_fewest(block, level, one, other)
                        found[count] = found.get(count, 0) + 1
        self.assertGreater(min(found[0], found[1], found[2]), 5)

    def test_through_layers(self):
        # High and low ones in turn, each across the whole box.
        grid = all_split((3, 1, 1))
        block = block_of(grid, corners, lambda corner: 5 if corner[0] // 2 % 2 else -5)
        for end in (0, 2, 4, 6, 8, 10, 12):
            self.assertEqual(self.assert_fewest(block, 0, (0, 0, 0), (end, 4, 2)), end // 2)
        known = {known.name: known.block for known in known_blocks(corners)}
        self.assertEqual(self.assert_fewest(known["an onion"], 0, (0, 0, 0), (4, 4, 4)), 2)
        self.assertEqual(self.assert_fewest(known["an onion"], 0, (4, 4, 4), (8, 8, 0)), 2)
        self.assertEqual(self.assert_fewest(known["an onion"], 0, (4, 4, 4), (2, 2, 2)), 1)
        self.assertEqual(self.assert_fewest(known["a ring"], 0, (4, 4, 2), (0, 0, 0)), 0)

    def test_the_same_point(self):
        block = (CELL, (1, 0, 0, 0, 0, 0, 0, 1))
        count, walk, heights = fewest(block, 1, (0, 0, 0), (0, 0, 0))
        self.assertEqual((count, walk), (0, ((0, 0, 0),)))
        self.assertEqual(heights, tuple(
            {(0, 0, 0): 0, (4, 4, 4): 2}.get(point, 1) for point in points(CELL)
        ))

    def test_all_of_one_kind(self):
        for level in (-9999, 9999):
            for block in sample_blocks(corners):
                whole = points(block[0])
                self.assert_fewest(block, level, whole[0], whole[-1])
                self.assertEqual(fewest(block, level, whole[3], whole[5])[2], (0,) * len(whole))


class HeightsHold(unittest.TestCase):
    def heights(self, block, level):
        whole = points(block[0])
        return fewest(block, level, whole[0], whole[-1])[2]

    def test_below_0_and_all_moved(self):
        for block in sample_blocks(corners):
            told = self.heights(block, 0)
            for by in (0, 1, -1, -7, 10 ** 39, -10 ** 39):
                self.assertIs(asked(self, heights_hold, block, 0, tuple(number + by for number in told)), True)
            self.assertIs(heights_hold(block, 0, tuple(-number for number in told)), True)
            self.assertIs(heights_hold(block, 0, (0,) * len(told)), True)

    def test_one_kind_raised(self):
        for block in sample_blocks(corners):
            kinds = kinds_by_words(block, 0)
            whole = points(block[0])
            for by, held in ((1, True), (-1, True), (2, False), (-2, False)):
                told = tuple(by if kinds[point] else 0 for point in whole)
                self.assertIs(heights_hold(block, 0, told), held)

    def test_one_changed(self):
        found = {True: 0, False: 0}
        for block in list(sample_blocks(corners, spread=1))[:7]:
            for level in (0, 1):
                kinds = kinds_by_words(block, level)
                told = self.heights(block, level)
                for at in range(0, len(told), 1 + len(told) // 8):
                    for by in (-2, -1, 1, 2):
                        thing = told[:at] + (told[at] + by,) + told[at + 1:]
                        held = heights_hold(block, level, thing)
                        self.assertIs(held, heights_by_words(kinds, block[0], thing))
                        found[held] += 1
        self.assertGreater(min(found.values()), 3)

    def test_too_few_and_too_many(self):
        for block in sample_blocks(corners):
            told = self.heights(block, 0)
            for thing in (told[:-1], told[1:], told + told[-1:], told + told, ()):
                self.assertIs(heights_hold(block, 0, thing), False)

    def test_lists_truths_texts_and_none(self):
        block = (CELL, (1,) + (0,) * 7)
        zeros = (0,) * 15
        self.assertIs(heights_hold(block, 1, zeros), True)
        for spare in (False, None, "0", "", (), (0,), [0], []):
            for at in (0, 7, 14):
                self.assertIs(heights_hold(block, 1, zeros[:at] + (spare,) + zeros[at + 1:]), False)
        self.assertIs(heights_hold(block, 1, (True,) + zeros[1:]), False)
        for thing in (list(zeros), "0" * 15, None, True, 0, (False,) * 15, (None,) * 15):
            self.assertIs(asked(self, heights_hold, block, 1, thing), False)

    def test_things_of_any_kind(self):
        for block in list(sample_blocks(corners))[::3]:
            for thing in odd_things():
                self.assertIs(asked(self, heights_hold, block, 0, thing), False)

    def test_a_part_changed(self):
        block = (CELL, (3, 0, 0, 2, -5, 1, 1, 4))
        kinds = kinds_by_words(block, 1)
        for thing in variants(self.heights(block, 1)):
            self.assertIs(heights_hold(block, 1, thing), heights_by_words(kinds, CELL, thing), thing)


if __name__ == "__main__":
    unittest.main()
