"""[2], [17]: how the parts of a skin make a tree of the regions."""

import random
import unittest

from levelskins.grids import corners
from levelskins.nests import nest, nest_holds
from levelskins.pieces import skin
from levelskins.skins import parts
from tests.samples import asked, is_int, known_blocks, odd_things, sample_blocks, variants
from tests.words import regions_by_words


def tree_by_words(highs, lows, thing):
    """The words of [17], written out once more."""
    if type(thing) is not tuple or highs + lows != len(thing) + 1:
        return False
    for pair in thing:
        if type(pair) is not tuple or len(pair) != 2 or not is_int(pair[0]) or not is_int(pair[1]):
            return False
        if not 0 <= pair[0] < highs or not 0 <= pair[1] < lows:
            return False
    home = {("high", number): number for number in range(highs)}
    home.update({("low", number): highs + number for number in range(lows)})
    for high, low in thing:
        gone, kept = home["high", high], home["low", low]
        home = {region: kept if at == gone else at for region, at in home.items()}
    return len(set(home.values())) == 1


def some_tree(picked, highs, lows):
    """Any tree of so many regions, one at least of each kind."""
    pairs = [(0, 0)]
    left = [("high", number) for number in range(1, highs)] + [("low", number) for number in range(1, lows)]
    picked.shuffle(left)
    known = {"high": [0], "low": [0]}
    for kind, number in left:
        other = picked.choice(known["low" if kind == "high" else "high"])
        pairs.append((number, other) if kind == "high" else (other, number))
        known[kind].append(number)
    picked.shuffle(pairs)
    return tuple(pairs)


class Nest(unittest.TestCase):
    def test_known(self):
        for known in known_blocks(corners):
            self.assertEqual(asked(self, nest, known.block, 0), known.nest, known.name)

    def test_by_words(self):
        several = 0
        for spread in (1, 3):
            for block in sample_blocks(corners, spread=spread):
                for level in (-2, -1, 0, 1):
                    highs, lows = regions_by_words(block, level)
                    home = {point: at for kind in (highs, lows) for at, region in enumerate(kind) for point in region}
                    cycles = skin(block, level)
                    told = asked(self, nest, block, level)
                    self.assertIs(type(told), tuple)
                    self.assertEqual(len(told), len(parts(cycles)))
                    for part, row in zip(parts(cycles), told):
                        knots = {knot for number in part for knot in cycles[number]}
                        self.assertEqual({(home[high], home[low]) for high, low in knots}, {row})
                        self.assertIs(type(row), tuple)
                        self.assertTrue(all(is_int(number) for number in row))
                    self.assertIs(nest_holds(len(highs), len(lows), told), True)
                    self.assertTrue(tree_by_words(len(highs), len(lows), told))
                    several += len(told) > 2
        self.assertGreater(several, 10)

    def test_no_part(self):
        for block in sample_blocks(corners):
            self.assertEqual(nest(block, -9999), ())
            self.assertEqual(nest(block, 9999), ())


class NestHolds(unittest.TestCase):
    def test_trees(self):
        picked = random.Random(2)
        for _ in range(200):
            highs, lows = picked.randint(1, 6), picked.randint(1, 6)
            told = some_tree(picked, highs, lows)
            self.assertIs(asked(self, nest_holds, highs, lows, told), True)
            self.assertIs(nest_holds(highs + 1, lows, told), False)
            self.assertIs(nest_holds(highs, lows + 1, told), False)
            self.assertIs(nest_holds(lows, highs, told), tree_by_words(lows, highs, told))

    def test_one_region_alone(self):
        self.assertIs(nest_holds(1, 0, ()), True)
        self.assertIs(nest_holds(0, 1, ()), True)
        for highs, lows in ((0, 0), (1, 1), (2, 0), (0, 2), (3, 1), (10 ** 39, 0), (10 ** 39, 10 ** 39)):
            self.assertIs(nest_holds(highs, lows, ()), False)

    def test_two_of_one_kind_and_none_of_the_other(self):
        for pair in ((0, 0), (0, 1), (1, 0)):
            self.assertIs(nest_holds(2, 0, (pair,)), False)
            self.assertIs(nest_holds(0, 2, (pair,)), False)

    def test_a_pair_less_or_more(self):
        picked = random.Random(3)
        for highs, lows in ((1, 1), (2, 1), (1, 4), (3, 3), (5, 2)):
            told = some_tree(picked, highs, lows)
            for at in range(len(told)):
                self.assertIs(nest_holds(highs, lows, told[:at] + told[at + 1:]), False)
                self.assertIs(nest_holds(highs, lows, told + told[at:at + 1]), False)
            for high in range(highs):
                for low in range(lows):
                    self.assertIs(nest_holds(highs, lows, told + ((high, low),)), False)

    def test_numbers_out_of_range(self):
        for pair, held in (
            ((0, 0), False), ((1, 0), True), ((2, 0), False), ((1, 1), False), ((-1, 0), False), ((1, -1), False),
            ((10 ** 39, 0), False),
        ):
            self.assertIs(nest_holds(2, 1, ((0, 0), pair)), held, pair)

    def test_as_many_pairs_but_no_tree(self):
        # A pair twice; or a ring of two high and two low regions, and one more that none leads to.
        self.assertIs(nest_holds(2, 1, ((0, 0), (0, 0))), False)
        ring = ((0, 0), (0, 1), (1, 0), (1, 1))
        self.assertIs(nest_holds(3, 2, ring), False)
        self.assertIs(nest_holds(2, 3, ring), False)
        self.assertIs(nest_holds(3, 2, ring[:3] + ((2, 1),)), True)

    def test_any_pairs(self):
        picked = random.Random(5)
        found = {True: 0, False: 0}
        for _ in range(2000):
            highs, lows = picked.randint(1, 3), picked.randint(1, 3)
            count = highs + lows - 1
            told = tuple((picked.randrange(highs), picked.randrange(lows)) for _ in range(count))
            held = nest_holds(highs, lows, told)
            self.assertIs(held, tree_by_words(highs, lows, told))
            found[held] += 1
        self.assertGreater(min(found.values()), 300)

    def test_lists_truths_texts_and_none(self):
        self.assertIs(nest_holds(2, 1, ((0, 0), (1, 0))), True)
        for thing in (
            [(0, 0), (1, 0)], ([0, 0], (1, 0)), ((0, 0), [1, 0]), ((0, 0), (True, 0)), ((False, 0), (1, 0)),
            ((0, 0), (1, False)), ((0, 0), "10"), ((0, 0), ("1", "0")), ((0, 0), None), ((0, 0), (1, None)),
            ((0, 0), (1,)), ((0, 0), (1, 0, 0)), ((0, 0), ()), ((0, 0), 1), "ab", None, True, 2,
        ):
            self.assertIs(asked(self, nest_holds, 2, 1, thing), False, thing)

    def test_things_of_any_kind(self):
        for thing in odd_things():
            for highs, lows in ((0, 0), (1, 0), (0, 1), (1, 1), (2, 1), (1, 2), (2000, 2001), (10 ** 39, 1)):
                wanted = tree_by_words(highs, lows, thing)
                self.assertIs(asked(self, nest_holds, highs, lows, thing), wanted)

    def test_a_part_changed(self):
        for highs, lows, told in ((3, 2, ((0, 0), (1, 0), (1, 1), (2, 1))), (1, 1, ((0, 0),)), (1, 0, ())):
            for thing in variants(told):
                self.assertIs(nest_holds(highs, lows, thing), tree_by_words(highs, lows, thing), thing)


if __name__ == "__main__":
    unittest.main()
