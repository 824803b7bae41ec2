"""Grids, blocks and odd things that the tests share."""

import copy
import random
from collections import namedtuple
from fractions import Fraction
from itertools import permutations, product
from math import gcd

ALL_SIZES = tuple(sizes for sizes in product((1, 2, 3), repeat=3) if sizes[0] * sizes[1] * sizes[2] <= 8)
MOVES = tuple(product(permutations((0, 1, 2)), product((0, 1), repeat=3)))
# holes has (handles, rims) of each part; highs and lows are how many regions there are.
Known = namedtuple("Known", "name block holes highs lows nest")


def places(sizes):
    return tuple(product(*[range(size) for size in sizes]))


def sample_grids():
    """Of all sizes: none, all, the first, the last, every second and some other places split."""
    picked = random.Random(4)
    for sizes in ALL_SIZES:
        whole = places(sizes)
        splits = [(), whole, whole[:1], whole[-1:], whole[::2]]
        splits += [tuple(place for place in whole if picked.random() < 0.4) for _ in range(2)]
        for split in sorted(set(splits)):
            yield (sizes, split)


def few_grids():
    return [
        ((1, 1, 1), ()),
        ((1, 1, 1), ((0, 0, 0),)),
        ((2, 1, 1), ()),
        ((1, 2, 1), ((0, 0, 0),)),
        ((1, 1, 3), ((0, 0, 1),)),
        ((2, 2, 1), ((0, 0, 0),)),
        ((1, 2, 2), ((0, 0, 1), (0, 1, 0))),
        ((3, 2, 1), ((0, 1, 0), (2, 0, 0), (2, 1, 0))),
        ((2, 2, 2), ((0, 0, 0),)),
        ((2, 2, 2), ((0, 0, 0), (0, 1, 1), (1, 0, 1), (1, 1, 0))),
    ]


def sample_blocks(corners, spread=3, seed=9):
    """A block on each of the few grids: many corners have like numbers, so many lie at a level."""
    picked = random.Random(seed)
    for grid in few_grids():
        yield (grid, tuple(picked.randint(-spread, spread) for _ in corners(grid)))


def block_of(grid, corners, number_at):
    """The block with the number that number_at tells of each corner."""
    return (grid, tuple(number_at(corner) for corner in corners(grid)))


def sample_sheets(spread=3, seed=5):
    """Sheets of many sizes, the least and the greatest ones too; many corners have like numbers."""
    picked = random.Random(seed)
    for a, b in ((1, 1), (1, 1), (2, 1), (1, 2), (1, 8), (8, 1), (3, 2), (4, 5), (7, 8), (8, 8)):
        yield ((a, b), tuple(picked.randint(-spread, spread) for _ in range((a + 1) * (b + 1))))


def all_split(sizes):
    return (sizes, places(sizes))


def known_blocks(corners):
    """Blocks whose skin at level 0 is known by looking."""
    cell, fine = ((1, 1, 1), ()), all_split((1, 1, 1))
    flat, cube = all_split((2, 2, 1)), all_split((2, 2, 2))
    ring = {(x, y, 2) for x in (2, 4, 6) for y in (2, 4, 6)} - {(4, 4, 2)}

    def high_where(grid, test):
        return block_of(grid, corners, lambda corner: 0 if test(corner) else -9)

    def onion(corner):
        return max(abs(number - 4) for number in corner) != 2

    rows = [
        ("none high", high_where(cell, lambda corner: False), (), 0, 1, ()),
        ("all high", high_where(cell, lambda corner: True), (), 1, 0, ()),
        ("a corner", high_where(cell, lambda corner: corner == (0, 0, 0)), ((0, 1),), 1, 1, ((0, 0),)),
        ("two corners", high_where(cell, lambda corner: corner in ((0, 0, 0), (4, 4, 4))), ((0, 1),) * 2, 2, 1,
         ((0, 0), (1, 0))),
        ("half the box", high_where(flat, lambda corner: corner[0] < 4), ((0, 1),), 1, 1, ((0, 0),)),
        ("a ball", high_where(fine, lambda corner: corner == (2, 2, 2)), ((0, 0),), 1, 1, ((0, 0),)),
        ("a hollow", high_where(fine, lambda corner: corner != (2, 2, 2)), ((0, 0),), 1, 1, ((0, 0),)),
        ("a post", high_where(flat, lambda corner: corner[:2] == (4, 4)), ((0, 2),), 1, 1, ((0, 0),)),
        ("a ring", high_where(flat, lambda corner: corner in ring), ((1, 0),), 1, 1, ((0, 0),)),
        ("an onion", high_where(cube, onion), ((0, 0),) * 2, 2, 1, ((0, 0), (1, 0))),
    ]
    return [Known(*row) for row in rows]


def knots_in(sizes, count, seed=1):
    """Unlike pairs of unlike points in the box, mostly no ties of any grid."""
    picked = random.Random(seed)
    told = []
    while len(told) < count:
        one, other = [tuple(picked.randint(0, 4 * size) for size in sizes) for _ in range(2)]
        if one != other and (one, other) not in told:
            told.append((one, other))
    return told


def torus(many, more):
    """Squares that close both round the one way and round the other."""
    def number(i, j):
        return i % many * more + j % more
    return [
        (number(i, j), number(i + 1, j), number(i + 1, j + 1), number(i, j + 1))
        for i in range(many) for j in range(more)
    ]


# Closed solids, by the numbers of their knots, with what euler comes to.
SOLIDS = (
    ([(0, 1, 2), (0, 2, 1)], 2),
    ([(0, 1, 2), (0, 2, 3), (0, 3, 1), (1, 3, 2)], 2),
    ([(0, 1, 2, 3), (0, 4, 1), (1, 4, 2), (2, 4, 3), (3, 4, 0)], 2),
    ([(0, 3, 2, 1), (4, 5, 6, 7), (0, 1, 5, 4), (1, 2, 6, 5), (2, 3, 7, 6), (3, 0, 4, 7)], 2),
    ([(0, 1, 2), (0, 2, 3), (0, 3, 4), (0, 4, 1), (5, 2, 1), (5, 3, 2), (5, 4, 3), (5, 1, 4)], 2),
    (torus(3, 3), 0),
    (torus(4, 5), 0),
)


def solid(rows, knots):
    """The cycles of a closed solid with these knots."""
    return tuple(least_first(tuple(knots[number] for number in row)) for row in rows)


def solids(sizes, seed=1):
    """Closed solids whose knots are any pairs of unlike points in the box: (cycles, euler)."""
    for at, (rows, euler) in enumerate(SOLIDS):
        count = 1 + max(number for row in rows for number in row)
        yield solid(rows, knots_in(sizes, count, seed + at)), euler


def least_first(cycle):
    at = cycle.index(min(cycle))
    return tuple(cycle[at:] + cycle[:at])


def sides(cycle):
    return list(zip(cycle, cycle[1:] + cycle[:1]))


def on_one_side(sizes, told):
    return any(all(point[axis] == end for point in told) for axis in range(3) for end in (0, 4 * sizes[axis]))


def nested(depth, inmost, kind):
    thing = inmost
    for _ in range(depth):
        thing = kind([thing])
    return thing


def odd_things():
    return [
        None, True, False, 0, 1, -1, 10 ** 39, -10 ** 39, "", "grid", "x" * 400, (), [], ((),), [[]], ((), ()),
        [[], []], (None, None), (True, False), (1, 1, 1), [1, 1, 1], ((1, 1, 1),), ((1, 1, 1), None),
        ((1, 1, 1), ""), ("abc", ()), ("", ""), "ab", (0, 0), ((0, 0, 0), ((0, 0, 0),)), ("111", ()),
        nested(12, 1, tuple), nested(12, (), list), nested(6, ((1, 1, 1), ()), tuple),
        tuple(range(4000)), list(range(4000)), (None,) * 4000,
    ]


SPARES = (None, True, False, 0, 1, -1, 2, 3, 4, 5, 10 ** 39, -10 ** 39, "", "ab", (), [], (0, 0, 0), ((0, 0, 0),))


def variants(thing):
    """The thing with one part changed, in each of many ways; lists in the place of tuples at every depth."""
    for spare in SPARES:
        yield copy.deepcopy(spare)
    if isinstance(thing, int):
        yield thing + 1
        yield thing - 1
    if not isinstance(thing, tuple):
        return
    yield list(thing)
    yield thing + (None,)
    for at, part in enumerate(thing):
        yield thing[:at] + thing[at + 1:]
        yield thing[:at] + (part, part) + thing[at + 1:]
        if at:
            yield thing[:at - 1] + (part, thing[at - 1]) + thing[at + 1:]
        for other in variants(part):
            yield thing[:at] + (other,) + thing[at + 1:]


def asked(case, function, *told):
    """What the function tells, once it is sure that it changes nothing handed in and tells the same again."""
    ahead = repr(told)
    first = function(*told)
    second = function(*told)
    case.assertEqual(repr(told), ahead)
    case.assertEqual(repr(first), repr(second))
    return first


def assert_rising(case, things):
    case.assertIs(type(things), tuple)
    for one, other in zip(things, things[1:]):
        case.assertLess(one, other)


def assert_fraction(case, told, wanted):
    case.assertIs(type(told), tuple)
    above, below = told
    case.assertTrue(is_int(above) and is_int(below))
    case.assertGreaterEqual(below, 1)
    case.assertEqual(gcd(above, below), 1)
    case.assertEqual(Fraction(above, below), wanted)


def is_int(thing):
    return type(thing) is int


def is_three(thing):
    return type(thing) is tuple and len(thing) == 3 and all(is_int(part) for part in thing)


def is_point_in(sizes, thing):
    """Whether it is a point in the box."""
    return is_three(thing) and all(0 <= number <= 4 * size for number, size in zip(thing, sizes))
