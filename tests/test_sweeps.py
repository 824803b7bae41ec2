"""[23]: regions of high points that are born and end as the level falls."""

import random
import unittest

from levelskins.grids import corners
from levelskins.mesh import points, ties
from levelskins.sweeps import count_at, sweep
from tests.samples import all_split, asked, block_of, is_int, is_three, known_blocks, sample_blocks
from tests.words import regions_by_words, worths_by_words

CELL = ((1, 1, 1), ())
ARMS = {
    (4, 4, 4): 1, (0, 4, 4): 10, (4, 0, 4): 11, (8, 4, 4): 12, (4, 4, 0): 13, (4, 4, 8): 14, (4, 8, 4): 15,
}
LEVELS = (-9999, -4, -3, -2, -1, 0, 1, 2, 3, 4, 9999)


def sweep_by_words(block):
    """The words of [23], written out once more: the regions are sets of points, in the order of their births."""
    worths = worths_by_words(block)
    near = {point: set() for point in worths}
    for one, other in ties(block[0]):
        near[one].add(other)
        near[other].add(one)
    standing, told = [], []
    for point in sorted(sorted(worths), key=lambda point: worths[point], reverse=True):
        met = [row for row in standing if row[1] & near[point]]
        if not met:
            standing.append((point, {point}))
            told.append(("born", point))
            continue
        first, others = met[0], met[1:]
        first[1].add(point)
        for row in others:
            first[1].update(row[1])
            told.append(("ends", point, row[0], first[0]))
        standing = [row for row in standing if row not in others]
    return tuple(told)


def blocks():
    for spread in (1, 3, 9999):
        yield from sample_blocks(corners, spread=spread)
    for known in known_blocks(corners):
        yield known.block


def count_by_words(block, events, level):
    worths = worths_by_words(block)
    told = [event[0] for event in events if worths[event[1]] >= 8 * level]
    return told.count("born") - told.count("ends")


class Sweep(unittest.TestCase):
    def test_all_alike(self):
        # The least point is high first, and each other one has a tie to one that is high ahead of it.
        block = (CELL, (7,) * 8)
        self.assertEqual(sweep(block), (("born", (0, 0, 0)),))
        for grid in (((2, 1, 1), ()), all_split((1, 1, 1)), ((2, 1, 1), ((1, 0, 0),))):
            for number in (-9999, 0, 9999):
                block = block_of(grid, corners, lambda corner: number)
                told = sweep(block)
                self.assertEqual(told, sweep_by_words(block))
                self.assertEqual(told[0], ("born", (0, 0, 0)))

    def test_two_corners(self):
        # Both corners are of like worth: the lesser one is born first, and goes on.
        block = (CELL, (1, 0, 0, 0, 0, 0, 0, 1))
        self.assertEqual(sweep(block), (
            ("born", (0, 0, 0)), ("born", (4, 4, 4)), ("ends", (2, 2, 2), (4, 4, 4), (0, 0, 0)),
        ))

    def test_the_one_born_first_goes_on(self):
        # The greater point has the greater worth, so it is born first.
        block = (CELL, (1, 0, 0, 0, 0, 0, 0, 2))
        self.assertEqual(sweep(block), (
            ("born", (4, 4, 4)), ("born", (0, 0, 0)), ("ends", (2, 2, 2), (0, 0, 0), (4, 4, 4)),
        ))

    def test_several_end_at_one_corner(self):
        # The box's midst has a tie to each of six corners that are high ahead of it, and of which none leads to another.
        block = block_of(((2, 2, 2), ()), corners, lambda corner: ARMS.get(corner, -999))
        first, *others = sorted(ARMS, key=ARMS.get, reverse=True)[:6]
        self.assertEqual(first, (4, 8, 4))
        self.assertEqual(sweep(block), (
            ("born", first), *(("born", point) for point in others),
            *(("ends", (4, 4, 4), point, first) for point in others),
        ))

    def test_several_of_like_worth_end_at_one_corner(self):
        block = block_of(((2, 2, 2), ()), corners, lambda corner: min(ARMS.get(corner, -999), 10))
        first, *others = sorted(set(ARMS) - {(4, 4, 4)})
        self.assertEqual(sweep(block), (
            ("born", first), *(("born", point) for point in others),
            *(("ends", (4, 4, 4), point, first) for point in others),
        ))

    def test_several_end_at_one_middle(self):
        # Each face with two of the three high corners has the low one, too, and is worth less than the cell's middle.
        block = (CELL, (10, -20, 0, 12, 0, 11, 0, 0))
        self.assertEqual(sweep(block), (
            ("born", (0, 4, 4)), ("born", (4, 0, 4)), ("born", (0, 0, 0)),
            ("ends", (2, 2, 2), (4, 0, 4), (0, 4, 4)), ("ends", (2, 2, 2), (0, 0, 0), (0, 4, 4)),
        ))

    def test_faces_middles(self):
        # Three of them lead from one high corner to another, each worth twice what these have together.
        block = (CELL, (9, 0, 0, 12, 0, 10, 11, 0))
        self.assertEqual(sweep(block), (
            ("born", (0, 4, 4)), ("born", (4, 4, 0)), ("born", (4, 0, 4)), ("born", (0, 0, 0)),
            ("ends", (2, 4, 2), (4, 4, 0), (0, 4, 4)), ("ends", (2, 2, 4), (4, 0, 4), (0, 4, 4)),
            ("ends", (0, 2, 2), (0, 0, 0), (0, 4, 4)),
        ))

    def test_one_that_ended_does_not_end_again(self):
        # The second one born ends into the first; the third one then meets what was the second's and is the first's.
        grid = ((3, 2, 1), ())
        heights = {(0, 0): 9, (4, 0): 5, (8, 0): 8, (12, 0): 2, (12, 4): 1, (12, 8): 7}
        block = block_of(grid, corners, lambda corner: heights.get(corner[:2], -99) if corner[2] == 0 else -99)
        self.assertEqual(sweep(block), (
            ("born", (0, 0, 0)), ("born", (8, 0, 0)), ("born", (12, 8, 0)),
            ("ends", (4, 0, 0), (8, 0, 0), (0, 0, 0)), ("ends", (12, 4, 0), (12, 8, 0), (0, 0, 0)),
        ))

    def test_by_words(self):
        for block in blocks():
            told = asked(self, sweep, block)
            self.assertIs(type(told), tuple)
            self.assertEqual(told, sweep_by_words(block))

    def test_the_form_of_events(self):
        for block in list(blocks())[::3]:
            known = points(block[0])
            for event in sweep(block):
                self.assertIs(type(event), tuple)
                self.assertEqual(len(event), {"born": 2, "ends": 4}[event[0]])
                for point in event[1:]:
                    self.assertTrue(is_three(point) and point in known)

    def test_in_order(self):
        # By falling worth, of like worth rising; each that ends was born ahead and ends once, the first one never.
        for block in blocks():
            worths = worths_by_words(block)
            told = sweep(block)
            order = [(-worths[event[1]], event[1]) for event in told]
            self.assertEqual(order, sorted(order))
            born = [event[1] for event in told if event[0] == "born"]
            ended = [event[2] for event in told if event[0] == "ends"]
            self.assertEqual(len(set(born)), len(born))
            self.assertEqual(sorted(ended), sorted(born[1:]))
            for event in told:
                if event[0] == "ends":
                    self.assertLess(born.index(event[3]), born.index(event[2]))

    def test_of_one_point_those_born_first_ahead(self):
        seen = 0
        for block in blocks():
            told = sweep(block)
            born = [event[1] for event in told if event[0] == "born"]
            ends = [event for event in told if event[0] == "ends"]
            for one, other in zip(ends, ends[1:]):
                if one[1] == other[1]:
                    self.assertLess(born.index(one[2]), born.index(other[2]))
                    self.assertEqual(one[3], other[3])
                    seen += 1
        self.assertGreater(seen, 3)


class CountAt(unittest.TestCase):
    def test_two_corners(self):
        block = (CELL, (1, 0, 0, 0, 0, 0, 0, 2))
        events = sweep(block)
        self.assertEqual([count_at(block, events, level) for level in (-9, 0, 1, 2, 3, 9999)], [1, 1, 2, 1, 0, 0])

    def test_known(self):
        for known in known_blocks(corners):
            self.assertEqual(count_at(known.block, sweep(known.block), 0), known.highs, known.name)

    def test_of_sweeps_own(self):
        several = 0
        for spread in (1, 3):
            for block in sample_blocks(corners, spread=spread):
                events = sweep(block)
                for level in LEVELS:
                    told = asked(self, count_at, block, events, level)
                    self.assertTrue(is_int(told))
                    self.assertEqual(told, len(regions_by_words(block, level)[0]))
                    several += told > 1
        self.assertGreater(several, 10)

    def test_beyond_all_numbers(self):
        for block in sample_blocks(corners, spread=50):
            events = sweep(block)
            self.assertEqual(count_at(block, events, -9999), 1)
            self.assertEqual(count_at(block, events, 51), 0)
            self.assertEqual(count_at(block, events, 9999), 0)

    def test_cut_short(self):
        for block in list(sample_blocks(corners))[::2]:
            events = sweep(block)
            for many in range(len(events) + 1):
                for level in (-9999, -1, 0, 2, 9999):
                    self.assertEqual(
                        count_at(block, events[:many], level), count_by_words(block, events[:many], level))

    def test_some_in_their_order(self):
        picked = random.Random(6)
        below = 0
        for block in sample_blocks(corners):
            events = sweep(block)
            for _ in range(6):
                some = tuple(event for event in events if picked.random() < 0.5)
                for level in (-9999, -1, 0, 1):
                    told = asked(self, count_at, block, some, level)
                    self.assertEqual(told, count_by_words(block, some, level))
            only = tuple(event for event in events if event[0] == "ends")
            self.assertEqual(count_at(block, only, -9999), -len(only))
            below += bool(only)
        self.assertGreater(below, 3)

    def test_none(self):
        for block in sample_blocks(corners):
            for level in (-9999, 0, 9999):
                self.assertEqual(count_at(block, (), level), 0)


if __name__ == "__main__":
    unittest.main()
