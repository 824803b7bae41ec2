"""Blocks: grids with a number at each corner; worths and kinds of points ([9])."""

from levelskins.forms import is_number_from, is_tuple_of
from levelskins.grids import HALF, SIDE, corners, is_grid

MOST = 9999
EIGHTHS = 8


def is_block(thing):
    """Whether it is a block, whatever it is."""
    if not is_tuple_of(thing, 2) or not is_grid(thing[0]):
        return False
    grid, numbers = thing
    return are_numbers(numbers, len(corners(grid)))


def are_numbers(thing, count):
    """Whether it is a tuple of so many numbers, each such as a corner may bear."""
    return is_tuple_of(thing, count) and all([in_range(number) for number in thing])


def in_range(thing):
    """Whether it is such a number as a corner may bear, and a level may be."""
    return is_number_from(thing, -MOST, MOST)


def worth(block, point):
    """What the point is worth, in eighths."""
    return worth_by(numbers_at(block), point)


def numbers_at(block):
    """The number of each corner."""
    grid, numbers = block
    return dict(zip(corners(grid), numbers))


def worth_by(numbers, point):
    """As worth, of a block with these numbers at its corners."""
    if point in numbers:
        return EIGHTHS * numbers[point]
    around = corners_round(point)
    # Of four corners each counts twice, of eight each once: a middle is worth what these are on average.
    return EIGHTHS // len(around) * sum([numbers[corner] for corner in around])


def corners_round(middle):
    """The four or eight corners of the face or the cell in whose middle it is."""
    # Corners are even: only the middle of what has side 2 is odd, along the axes in which this reaches out.
    side = HALF if any([number & 1 for number in middle]) else SIDE
    half = side // 2
    around = [()]
    for number in middle:
        ends = (number - half, number + half) if number % side else (number,)
        around = [start + (end,) for start in around for end in ends]
    return around


def is_high(block, level, point):
    """Whether the point is high, not low, at this level."""
    return worth(block, point) >= EIGHTHS * level


def kinds_by(block, level, told):
    """For each of these points 1 if it is high, else 0."""
    return kinds_at(worths_by(block, told), level)


def worths_by(block, told):
    """What each of these points is worth, in eighths."""
    numbers = numbers_at(block)
    return {point: worth_by(numbers, point) for point in told}


def kinds_at(worths, level):
    """For each of the points with these worths 1 if it is high, else 0."""
    return {point: int(worths[point] >= EIGHTHS * level) for point in worths}
