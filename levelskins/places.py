"""Where knots lie on their ties ([10], [22])."""

from levelskins.blocks import EIGHTHS, numbers_at, worth_by
from levelskins.ratios import fraction


def along(block, level, knot):
    """The part of the way from the low point to the high one at which the knot lies: a fraction."""
    numbers = numbers_at(block)
    high, low = knot
    least = worth_by(numbers, low)
    return fraction(EIGHTHS * level - least, worth_by(numbers, high) - least)


def place_of(block, level, knot):
    """The place of the knot: three fractions."""
    above, below = along(block, level, knot)
    high, low = knot
    return tuple([
        fraction(start * below + (end - start) * above, below)
        for start, end in zip(low, high)
    ])
