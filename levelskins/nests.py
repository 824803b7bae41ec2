"""Nests: how the parts of a skin make a tree of the regions ([17])."""

from levelskins.forms import is_number_from, is_tuple_of
from levelskins.links import groups, linked
from levelskins.pieces import skin
from levelskins.regions import regions
from levelskins.skins import parts


def nest(block, level):
    """For each part of the skin, in order, the numbers of the high and of the low region at which it lies."""
    highs, lows = regions(block, level)
    numbers = {point: number for told in (highs, lows) for number, region in enumerate(told) for point in region}
    cycles = skin(block, level)
    # All knots of a part lead to the same two regions, so the first one's tie tells them.
    firsts = [cycles[part[0]][0] for part in parts(cycles)]
    return tuple([(numbers[high], numbers[low]) for high, low in firsts])


def nest_holds(highs, lows, thing):
    """Whether it makes a tree of so many high and low regions, whatever it is."""
    if not is_tuple_of(thing, highs + lows - 1):
        return False
    if not all([is_link(highs, lows, part) for part in thing]):
        return False
    # One list holds both kinds: the low regions follow the high ones.
    pairs = [(high, highs + low) for high, low in thing]
    return len(groups(linked(list(range(highs + lows)), pairs))) == 1


def is_link(highs, lows, thing):
    """Whether it is a pair of the numbers of a high and of a low region."""
    return is_tuple_of(thing, 2) and is_number_from(thing[0], 0, highs - 1) and is_number_from(thing[1], 0, lows - 1)
