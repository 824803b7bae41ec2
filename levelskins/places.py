"""Where knots lie on their ties ([10], [22])."""

from levelskins.blocks import EIGHTHS, numbers_at, worth_by
from levelskins.ratios import fraction


def along(block, level, knot):
    """The part of the way from the low point to the high one at which the knot lies: a fraction."""
    return along_by(numbers_at(block), level, knot)


def along_by(numbers, level, knot):
    """As along, of a block with these numbers at its corners."""
    high, low = knot
    least = worth_by(numbers, low)
    return fraction(EIGHTHS * level - least, worth_by(numbers, high) - least)


def place_of(block, level, knot):
    """The place of the knot: three fractions."""
    above, below = spot_by(numbers_at(block), level, knot)
    return tuple([fraction(number, below) for number in above])


def spot_by(numbers, level, knot):
    """The place of the knot as three numbers and one number, by which each of them is to be divided."""
    above, below = along_by(numbers, level, knot)
    high, low = knot
    return (tuple([start * below + (end - start) * above for start, end in zip(low, high)]), below)
