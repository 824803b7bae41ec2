"""Grids, blocks and odd things that the tests share."""

import copy
import random
from itertools import product

ALL_SIZES = tuple(sizes for sizes in product((1, 2, 3), repeat=3) if sizes[0] * sizes[1] * sizes[2] <= 8)


def places(sizes):
    return tuple(product(*[range(size) for size in sizes]))


def sample_grids():
    """Of all sizes: none, all, the first, the last, every second and some other places split."""
    picked = random.Random(4)
    for sizes in ALL_SIZES:
        whole = places(sizes)
        splits = [(), whole, whole[:1], whole[-1:], whole[::2]]
        splits += [tuple(place for place in whole if picked.random() < 0.4) for _ in range(2)]
        for split in sorted(set(splits)):
            yield (sizes, split)


def few_grids():
    return [
        ((1, 1, 1), ()),
        ((1, 1, 1), ((0, 0, 0),)),
        ((2, 1, 1), ()),
        ((1, 2, 1), ((0, 0, 0),)),
        ((1, 1, 3), ((0, 0, 1),)),
        ((2, 2, 1), ((0, 0, 0),)),
        ((1, 2, 2), ((0, 0, 1), (0, 1, 0))),
        ((3, 2, 1), ((0, 1, 0), (2, 0, 0), (2, 1, 0))),
        ((2, 2, 2), ((0, 0, 0),)),
        ((2, 2, 2), ((0, 0, 0), (0, 1, 1), (1, 0, 1), (1, 1, 0))),
    ]


def sample_blocks(corners, spread=3, seed=9):
    """A block on each of the few grids: many corners have like numbers, so many lie at a level."""
    picked = random.Random(seed)
    for grid in few_grids():
        yield (grid, tuple(picked.randint(-spread, spread) for _ in corners(grid)))


def nested(depth, inmost, kind):
    thing = inmost
    for _ in range(depth):
        thing = kind([thing])
    return thing


def odd_things():
    return [
        None, True, False, 0, 1, -1, 10 ** 39, -10 ** 39, "", "grid", "x" * 400, (), [], ((),), [[]], ((), ()),
        [[], []], (None, None), (True, False), (1, 1, 1), [1, 1, 1], ((1, 1, 1),), ((1, 1, 1), None),
        ((1, 1, 1), ""), ("abc", ()), ("", ""), "ab", (0, 0), ((0, 0, 0), ((0, 0, 0),)), ("111", ()),
        nested(12, 1, tuple), nested(12, (), list), nested(6, ((1, 1, 1), ()), tuple),
        tuple(range(4000)), list(range(4000)), (None,) * 4000,
    ]


SPARES = (None, True, False, 0, 1, -1, 2, 3, 4, 5, 10 ** 39, -10 ** 39, "", "ab", (), [], (0, 0, 0), ((0, 0, 0),))


def variants(thing):
    """The thing with one part changed, in each of many ways; lists in the place of tuples at every depth."""
    for spare in SPARES:
        yield copy.deepcopy(spare)
    if isinstance(thing, int):
        yield thing + 1
        yield thing - 1
    if not isinstance(thing, tuple):
        return
    yield list(thing)
    yield thing + (None,)
    for at, part in enumerate(thing):
        yield thing[:at] + thing[at + 1:]
        yield thing[:at] + (part, part) + thing[at + 1:]
        if at:
            yield thing[:at - 1] + (part, thing[at - 1]) + thing[at + 1:]
        for other in variants(part):
            yield thing[:at] + (other,) + thing[at + 1:]


def asked(case, function, *told):
    """What the function tells, once it is sure that it changes nothing handed in and tells the same again."""
    ahead = repr(told)
    first = function(*told)
    second = function(*told)
    case.assertEqual(repr(told), ahead)
    case.assertEqual(repr(first), repr(second))
    return first


def assert_rising(case, things):
    case.assertIs(type(things), tuple)
    for one, other in zip(things, things[1:]):
        case.assertLess(one, other)


def is_int(thing):
    return type(thing) is int


def is_three(thing):
    return type(thing) is tuple and len(thing) == 3 and all(is_int(part) for part in thing)
