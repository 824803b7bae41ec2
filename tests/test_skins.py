"""[2], [13], [14]: closed tuples of cycles, their sides, parts and rims."""

import random
import unittest

from levelskins.grids import corners
from levelskins.pieces import skin
from levelskins.skins import closed_holds, partners, parts, rims, turned_back
from tests.samples import (
    ALL_SIZES, SOLIDS, asked, assert_rising, is_point_in, known_blocks, knots_in, least_first, odd_things, on_one_side,
    sample_blocks, sides, solid, solids, variants,
)

CORNER = (((1, 1, 1), ()), (1, 0, 0, 0, 0, 0, 0, 0))
TETRA = SOLIDS[1][0]


def is_cycle(sizes, thing):
    """The words of [11] and [13] about cycles, written out once more."""
    if type(thing) is not tuple or len(thing) not in (3, 4):
        return False
    for knot in thing:
        if type(knot) is not tuple or len(knot) != 2 or not all(is_point_in(sizes, point) for point in knot):
            return False
        if knot[0] == knot[1] or thing.count(knot) != 1:
            return False
    return all(thing[0] <= knot for knot in thing)


def closed_by_words(sizes, thing):
    """The words of [13], written out once more."""
    if type(thing) is not tuple or not all(is_cycle(sizes, cycle) for cycle in thing):
        return False
    for at, cycle in enumerate(thing):
        for one, other in sides(cycle):
            if any((one, other) in sides(another) for number, another in enumerate(thing) if number != at):
                return False
            backs = sum((other, one) in sides(another) for another in thing)
            if backs != 1 and (backs > 1 or not on_one_side(sizes, one + other)):
                return False
    return True


def parts_by_words(cycles):
    """Cycles put together as long as one of a part has a side of another part turned back."""
    told = []
    for number, cycle in enumerate(cycles):
        backs = {(other, one) for one, other in sides(cycle)}
        met = [part for part in told if any(backs & set(sides(cycles[other])) for other in part)]
        told = [part for part in told if part not in met] + [sorted([number] + [one for part in met for one in part])]
    return tuple(sorted(tuple(part) for part in told))


def skins(spread=3, levels=(-2, 0, 1)):
    """The sizes and the skin of each sample block at some levels."""
    for block in sample_blocks(corners, spread=spread):
        for level in levels:
            yield block[0][0], skin(block, level)
    for known in known_blocks(corners):
        yield known.block[0][0], skin(known.block, 0)


def all_back(cycles):
    return tuple(turned_back(cycle) for cycle in cycles)


class ClosedHolds(unittest.TestCase):
    def test_skins(self):
        for spread in (1, 3):
            for sizes, cycles in skins(spread, range(-spread, spread + 1)):
                self.assertIs(asked(self, closed_holds, sizes, cycles), True)
                self.assertIs(closed_holds(sizes, all_back(cycles)), True)

    def test_solids(self):
        for sizes in ALL_SIZES:
            for cycles, _ in solids(sizes):
                self.assertIs(closed_holds(sizes, cycles), True)
                self.assertIs(closed_holds(sizes, all_back(cycles)), True)

    def test_none(self):
        for sizes in ALL_SIZES:
            self.assertIs(closed_holds(sizes, ()), True)

    def test_two_solids(self):
        knots = knots_in((2, 2, 1), 8)
        one, other, third = [solid(TETRA, told) for told in (knots[:4], knots[4:], knots[3:7])]
        self.assertIs(closed_holds((2, 2, 1), one + other), True)
        # A knot may lie in several solids, a side may not.
        self.assertIs(closed_holds((2, 2, 1), one + third), True)
        self.assertIs(closed_holds((2, 2, 1), one + solid(TETRA, knots[2:6])), False)

    def test_open_sides_on_one_side_of_the_box(self):
        a, b, c = ((4, 0, 0), (4, 1, 0)), ((4, 1, 1), (4, 0, 0)), ((4, 4, 4), (4, 0, 3))
        self.assertIs(closed_holds((1, 1, 1), (least_first((a, b, c)),)), True)
        self.assertIs(closed_holds((2, 1, 1), (least_first((a, b, c)),)), False)
        for at in range(3):
            for end in (0, 1):
                knots = [[list(point) for point in knot] for knot in (a, b, c)]
                knots[at][end][0] = 3
                cycle = least_first(tuple(tuple(tuple(point) for point in knot) for knot in knots))
                self.assertIs(closed_holds((1, 1, 1), (cycle,)), False)

    def test_each_knot_on_the_rim_is_not_enough(self):
        # Each knot lies on some side of the box; no two of them on one and the same.
        a, b, c = ((0, 1, 1), (0, 2, 2)), ((1, 0, 1), (2, 0, 2)), ((1, 1, 0), (2, 2, 0))
        self.assertIs(closed_holds((1, 1, 1), ((a, b, c),)), False)
        self.assertIs(closed_holds((1, 1, 1), ((a, b, c), (a, c, b))), True)

    def test_met_sides_may_lie_on_one_side_of_the_box(self):
        a, b, c = ((0, 0, 0), (0, 1, 0)), ((0, 1, 1), (0, 0, 0)), ((0, 4, 4), (0, 0, 3))
        self.assertIs(closed_holds((1, 1, 1), ((a, b, c), (a, c, b))), True)

    def test_left_out_twice_and_turned_back(self):
        for sizes, cycles in list(skins())[::3] + [(sizes, told) for sizes in ALL_SIZES for told, _ in solids(sizes)]:
            for at in range(0, len(cycles), 1 + len(cycles) // 9):
                cycle = cycles[at]
                rest = cycles[:at] + cycles[at + 1:]
                backs = {(other, one) for one, other in sides(cycle)}
                within = [
                    side for another in rest for side in sides(another)
                    if side in backs and not on_one_side(sizes, side[0] + side[1])
                ]
                self.assertIs(closed_holds(sizes, rest), not within)
                self.assertIs(closed_holds(sizes, cycles + (cycle,)), False)
                self.assertIs(closed_holds(sizes, (cycle,) + cycles), False)
                alone = not any(side in backs for another in rest for side in sides(another))
                self.assertIs(closed_holds(sizes, cycles[:at] + (turned_back(cycle),) + cycles[at + 1:]), alone)

    def test_too_few_and_too_many_knots(self):
        a, b, c, d, e = sorted(((0, 0, 0), (0, number, 0)) for number in range(1, 6))
        for cycle, held in (
            ((), False), ((a,), False), ((a, b), False), ((a, b, c), True), ((a, b, c, d), True),
            ((a, b, c, d, e), False),
        ):
            self.assertIs(closed_holds((1, 2, 1), (cycle,)), held)
            self.assertIs(closed_holds((1, 2, 1), (cycle, cycle[:1] + cycle[:0:-1])), held)

    def test_a_knot_twice(self):
        a, b, c = sorted(((0, 0, 0), (0, number, 0)) for number in range(1, 4))
        for cycle in ((a, a, b), (a, b, b), (a, b, a), (a, b, a, c), (a, b, c, b), (a, a, b, c), (a, b, c, c)):
            self.assertIs(closed_holds((1, 1, 1), (cycle,)), False)

    def test_the_least_first(self):
        for cycles, _ in solids((2, 1, 2)):
            for at, cycle in enumerate(cycles):
                for by in range(1, len(cycle)):
                    turned = cycle[by:] + cycle[:by]
                    self.assertIs(closed_holds((2, 1, 2), cycles[:at] + (turned,) + cycles[at + 1:]), False)

    def test_points_alike_or_beyond_the_box(self):
        for count, spare in enumerate((
            ((1, 1, 1), (1, 1, 1)), ((-1, 0, 0), (0, 0, 0)), ((0, 0, 0), (0, -1, 0)), ((0, 0, 0), (9, 0, 0)),
            ((0, 5, 0), (0, 0, 0)), ((0, 0, 0), (0, 0, 13)), ((8, 4, 12), (0, 0, 0)), ((0, 0, 10 ** 39), (0, 0, 0)),
        )):
            knots = knots_in((2, 1, 3), 3) + [spare]
            self.assertIs(closed_holds((2, 1, 3), solid(TETRA, knots)), count == 6)

    def test_other_sizes(self):
        for sizes, cycles in skins():
            for others in ALL_SIZES[::2]:
                self.assertIs(asked(self, closed_holds, others, cycles), closed_by_words_of_skin(others, cycles))

    def test_lists_texts_truths_and_none(self):
        cycles = skin(CORNER, 1)
        cycle, knot = cycles[0], cycles[0][0]
        for thing in (
            list(cycles), (list(cycle),) + cycles[1:], ((list(knot),) + cycle[1:],) + cycles[1:],
            (((list(knot[0]), knot[1]),) + cycle[1:],) + cycles[1:], (None,) + cycles[1:], cycles + (None,),
            cycles + ("abc",), cycles + (True,), cycles + ((),), cycles + (0,), "abc", "", True, False, None, 0, [],
        ):
            self.assertIs(asked(self, closed_holds, (1, 1, 1), thing), False)
        # Truths are equal to numbers in Python, so this is the same tuple to it, but not to the document.
        truths = tuple(
            tuple(tuple(tuple(number or False for number in point) for point in told) for told in each)
            for each in cycles
        )
        self.assertEqual(truths, cycles)
        self.assertIs(closed_holds((1, 1, 1), truths), False)

    def test_things_of_any_kind(self):
        for thing in odd_things():
            for sizes in ((1, 1, 1), (2, 2, 2)):
                self.assertIs(asked(self, closed_holds, sizes, thing), thing == () and type(thing) is tuple)

    def test_a_part_changed(self):
        for cycles in (skin(CORNER, 1), solid(TETRA, knots_in((1, 1, 1), 4))):
            for thing in variants(cycles):
                self.assertIs(closed_holds((1, 1, 1), thing), closed_by_words((1, 1, 1), thing), thing)

    def test_any_cycles_of_few_knots(self):
        picked = random.Random(7)
        found = {True: 0, False: 0}
        for _ in range(4000):
            # Each two of these points lie on one side of the box, not all of them together.
            line = [(0, 0, 0), (0, 0, 1), (0, 1, 0), (1, 0, 0)]
            knots = [(one, other) for one in line for other in line if one != other][:picked.choice((3, 4, 12))]
            count = picked.randint(1, 4)
            cycles = tuple(least_first(tuple(picked.sample(knots, 3))) for _ in range(count))
            told = closed_holds((1, 1, 1), cycles)
            self.assertIs(told, closed_by_words((1, 1, 1), cycles))
            found[told] += 1
        self.assertGreater(min(found.values()), 300)


def closed_by_words_of_skin(sizes, cycles):
    """What closed_holds must tell of the skin of a box of some sizes, asked of others."""
    having = {side for cycle in cycles for side in sides(cycle)}
    within = all(number <= 4 * size for side in having for knot in side for point in knot
                 for number, size in zip(point, sizes))
    return within and all(
        (other, one) in having or on_one_side(sizes, one + other) for one, other in having
    )


class TurnedBack(unittest.TestCase):
    def test_the_least_first(self):
        a, b, c, d = sorted(knots_in((1, 1, 1), 4))
        self.assertEqual(turned_back((a, b, c)), (a, c, b))
        self.assertEqual(turned_back((a, c, b)), (a, b, c))
        self.assertEqual(turned_back((a, b, c, d)), (a, d, c, b))
        self.assertEqual(turned_back((a, c, b, d)), (a, d, b, c))

    def test_sides_turned_back(self):
        for _, cycles in skins():
            for cycle in cycles[::5]:
                told = asked(self, turned_back, cycle)
                self.assertIs(type(told), tuple)
                self.assertEqual(told[0], min(cycle))
                self.assertEqual(set(sides(told)), {(other, one) for one, other in sides(cycle)})
                self.assertEqual(turned_back(told), cycle)


class Partners(unittest.TestCase):
    def test_a_corner(self):
        cycles = skin(CORNER, 1)
        told = partners(cycles)
        self.assertEqual(len(told), 18)
        self.assertEqual(sum(other is None for _, _, other in told), 6)
        a, b, c = cycles[2]
        self.assertEqual({row[0] for row in told if row[1] == 2}, {(a, b), (b, c), (c, a)})

    def test_a_solid(self):
        a, b, c = sorted(knots_in((1, 1, 1), 3))
        self.assertEqual(partners(((a, b, c), (a, c, b))), (
            ((a, b), 0, 1), ((a, c), 1, 0), ((b, a), 1, 0), ((b, c), 0, 1), ((c, a), 0, 1), ((c, b), 1, 0),
        ))

    def test_none(self):
        self.assertEqual(partners(()), ())

    def test_by_words(self):
        for sizes, cycles in list(skins()) + [((2, 2, 2), told) for told, _ in solids((2, 2, 2))]:
            told = asked(self, partners, cycles)
            assert_rising(self, tuple(row[0] for row in told))
            self.assertEqual(sorted(row[0] for row in told), sorted(side for cycle in cycles for side in sides(cycle)))
            having = {side for cycle in cycles for side in sides(cycle)}
            for row in told:
                self.assertIs(type(row), tuple)
                (one, other), number, back = row
                self.assertIn((one, other), sides(cycles[number]))
                self.assertIs(type(number), int)
                self.assertEqual(back is None, (other, one) not in having)
                if back is None:
                    self.assertTrue(on_one_side(sizes, one + other))
                else:
                    self.assertIs(type(back), int)
                    self.assertIn((other, one), sides(cycles[back]))
                    self.assertNotEqual(back, number)


class Parts(unittest.TestCase):
    def test_one_part_and_several(self):
        for known in known_blocks(corners):
            cycles = skin(known.block, 0)
            told = asked(self, parts, cycles)
            self.assertEqual(len(told), len(known.holes), known.name)
            self.assertEqual(sorted(number for part in told for number in part), list(range(len(cycles))))

    def test_none(self):
        self.assertEqual(parts(()), ())

    def test_a_knot_in_common_joins_not(self):
        knots = knots_in((2, 2, 1), 7)
        one, other = solid(TETRA, knots[:4]), solid(TETRA, knots[3:])
        self.assertEqual(parts(one + other), ((0, 1, 2, 3), (4, 5, 6, 7)))
        mixed = (one[0], other[0], other[1], one[1], other[2], one[2], one[3], other[3])
        self.assertEqual(parts(mixed), ((0, 3, 5, 6), (1, 2, 4, 7)))

    def test_by_words(self):
        several = 0
        for _, cycles in skins():
            told = asked(self, parts, cycles)
            assert_rising(self, told)
            for part in told:
                assert_rising(self, part)
            self.assertEqual(told, parts_by_words(cycles))
            several += len(told) > 1
        self.assertGreater(several, 10)


def rings_hold(case, cycles, told):
    """What [14] says of rims, of these ones."""
    having = {side for cycle in cycles for side in sides(cycle)}
    open_sides = {(one, other) for one, other in having if (other, one) not in having}
    assert_rising(case, told)
    gone = [side for ring in told for side in sides(ring)]
    case.assertEqual(sorted(gone), sorted(open_sides))
    for ring in told:
        case.assertIs(type(ring), tuple)
        case.assertEqual(ring[0], min(ring))
        case.assertEqual(len(set(ring)), len(ring))


class Rims(unittest.TestCase):
    def test_a_corner(self):
        high = (0, 0, 0)
        lows = [(0, 0, 4), (2, 0, 2), (4, 0, 0), (2, 2, 0), (0, 4, 0), (0, 2, 2)]
        self.assertEqual(rims(skin(CORNER, 1)), (tuple((high, low) for low in lows),))

    def test_known(self):
        for known in known_blocks(corners):
            told = rims(skin(known.block, 0))
            self.assertEqual(len(told), sum(many for _, many in known.holes), known.name)

    def test_none(self):
        self.assertEqual(rims(()), ())
        for cycles, _ in solids((2, 2, 2)):
            self.assertEqual(asked(self, rims, cycles), ())

    def test_a_lone_cycle_as_it_goes(self):
        a, b, c, d = sorted(((0, 0, 0), (0, number, 0)) for number in range(1, 5))
        for cycle in ((a, b, c), (a, c, b), (a, b, c, d), (a, c, b, d), (a, d, c, b)):
            self.assertEqual(rims((cycle,)), (cycle,))

    def test_skins(self):
        several = 0
        for _, cycles in skins():
            told = asked(self, rims, cycles)
            rings_hold(self, cycles, told)
            several += len(told) > 1
        self.assertGreater(several, 10)

    def test_parts_of_skins(self):
        seen = 0
        for _, cycles in skins():
            whole = []
            for part in parts(cycles):
                some = tuple(cycles[number] for number in part)
                told = rims(some)
                rings_hold(self, some, told)
                whole += told
                seen += 1
            self.assertEqual(tuple(sorted(whole)), rims(cycles))
        self.assertGreater(seen, 50)


class Promise(unittest.TestCase):
    def test_each_side_is_met_or_on_the_rim(self):
        for sizes, cycles in skins(1, (0, 1)):
            for (one, other), _, back in partners(cycles):
                self.assertEqual(back is None, on_one_side(sizes, one + other))


if __name__ == "__main__":
    unittest.main()
