"""Deeds: what each makes of a block and a level, and what it refuses ([28])."""

from levelskins.blocks import in_range, numbers_at
from levelskins.errors import Doubled, NoPlace, NoPoint, Outside
from levelskins.grids import corners, is_place


def renumbered(block, level, corner, number):
    """The corner has another number."""
    numbers = numbers_at(block)
    if corner not in numbers:
        raise NoPoint(corner)
    if not in_range(number):
        raise Outside(number)
    numbers[corner] = number
    return (block_by(block[0], numbers), level)


def releveled(block, ahead, level):
    """The level is another one than it was ahead."""
    if not in_range(level):
        raise Outside(level)
    return (block, level)


def cut_at(block, level, place, numbers):
    """The place is split; these are the numbers of the corners that come new."""
    sizes, split = block[0]
    if not is_place(sizes, place):
        raise NoPlace(place)
    if place in split:
        raise Doubled(place)
    grid = (sizes, tuple(sorted(split + (place,))))
    known = numbers_at(block)
    fresh = [corner for corner in corners(grid) if corner not in known]
    if len(numbers) != len(fresh):
        raise Outside(len(numbers))
    for corner, number in zip(fresh, numbers):
        if not in_range(number):
            raise Outside(number)
        known[corner] = number
    return (block_by(grid, known), level)


def healed_at(block, level, place):
    """The place is split no longer."""
    sizes, split = block[0]
    if not is_place(sizes, place):
        raise NoPlace(place)
    if place not in split:
        raise Doubled(place)
    grid = (sizes, tuple([other for other in split if other != place]))
    return (block_by(grid, numbers_at(block)), level)


def block_by(grid, numbers):
    """The block of this grid, where these are the numbers of its corners and perhaps of other points."""
    return (grid, tuple([numbers[corner] for corner in corners(grid)]))


DEEDS = {"renumber": renumbered, "relevel": releveled, "cut": cut_at, "heal": healed_at}


def after(block, level, deed):
    """The block and the level behind a deed, which is a word and what the deed is about."""
    word, *told = deed
    action = DEEDS[word]
    return action(block, level, *told)
