"""Blocks: grids with a number at each corner; worths and kinds of points ([9])."""

from levelskins.forms import is_number_from, is_tuple_of
from levelskins.grids import HALF, SIDE, corners, is_grid

MOST = 9999
EIGHTHS = 8


def is_block(thing):
    """Whether it is a block, whatever it is."""
    if not is_tuple_of(thing, 2) or not is_grid(thing[0]):
        return False
    grid, numbers = thing
    if not is_tuple_of(numbers, len(corners(grid))):
        return False
    return all([is_number_from(number, -MOST, MOST) for number in numbers])


def worth(block, point):
    """What the point is worth, in eighths."""
    return worth_by(numbers_at(block), point)


def numbers_at(block):
    """The number of each corner."""
    grid, numbers = block
    return dict(zip(corners(grid), numbers))


def worth_by(numbers, point):
    """As worth, of a block with these numbers at its corners."""
    if point in numbers:
        return EIGHTHS * numbers[point]
    around = corners_round(point)
    # Of four corners each counts twice, of eight each once: a middle is worth what these are on average.
    return EIGHTHS // len(around) * sum([numbers[corner] for corner in around])


def corners_round(middle):
    """The four or eight corners of the face or the cell in whose middle it is."""
    # Corners are even: only the middle of what has side 2 is odd, along the axes in which this reaches out.
    side = HALF if any([number & 1 for number in middle]) else SIDE
    half = side // 2
    x, y, z = [(number - half, number + half) if number % side else (number,) for number in middle]
    return [(u, v, w) for u in x for v in y for w in z]


def is_high(block, level, point):
    """Whether the point is high, not low, at this level."""
    return worth(block, point) >= EIGHTHS * level


def kinds_by(block, level, told):
    """For each of these points 1 if it is high, else 0."""
    numbers = numbers_at(block)
    return {point: int(worth_by(numbers, point) >= EIGHTHS * level) for point in told}
