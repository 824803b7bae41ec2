"""Volumes, wedge by wedge ([19])."""

from levelskins.blocks import EIGHTHS, numbers_at, worth_by
from levelskins.mesh import turn, wedges
from levelskins.ratios import fraction, total


def part_of(block, level, wedge):
    """Which part of the wedge has at least the level: a fraction."""
    return part_by(numbers_at(block), level, wedge)


def part_by(numbers, level, wedge):
    """As part_of, of a block with these numbers at its corners."""
    depths = [worth_by(numbers, point) - EIGHTHS * level for point in wedge]
    highs = [depth for depth in depths if depth >= 0]
    lows = [depth for depth in depths if depth < 0]
    if len(highs) == 1:
        return tip_part(highs[0], lows)
    if len(highs) == 2:
        return edge_part(highs, lows)
    if len(highs) == 3:
        above, below = tip_part(lows[0], highs)
        return (below - above, below)
    return (1, 1) if highs else (0, 1)


def tip_part(tip, others):
    """The part of a wedge that a cut takes off with one point; told is how far each is above the cut."""
    one, other, third = others
    return fraction(tip * tip * tip, (tip - one) * (tip - other) * (tip - third))


def edge_part(highs, lows):
    """The part of a wedge that a cut takes off with two points; told is how far each is above the cut."""
    a, b = highs
    c, d = lows
    ac, ad, bc, bd = a - c, a - d, b - c, b - d
    # What is taken off has six ends: a, b and the cut's four. It's made of three wedges: that of a, b and b's two
    # ends, that of a, its end towards c and b's two ends, and that of a, its two ends and b's end towards d.
    return fraction(b * b * ac * ad - a * b * c * ad - a * a * d * bc, ac * ad * bc * bd)


def volume(block, level):
    """What the parts of all wedges that have at least the level have together: a fraction."""
    numbers = numbers_at(block)
    return total([sized(turn(wedge), part_by(numbers, level, wedge)) for wedge in wedges(block[0])])


def sized(six_times, part):
    """This part of a volume that is told six times."""
    above, below = part
    return fraction(six_times * above, 6 * below)
