"""What changes from one level to another ([22])."""

from levelskins.blocks import kinds_at, worths_by
from levelskins.mesh import points, wedges_by_cell


def touched(block, one, other):
    """The cells in which some wedge's point is high at the one of both levels and low at the other: rising."""
    by_cell = wedges_by_cell(block[0])
    worths = worths_by(block, points(block[0]))
    here, there = kinds_at(worths, one), kinds_at(worths, other)
    return tuple([
        cell for cell in by_cell
        if any([here[point] != there[point] for wedge in by_cell[cell] for point in wedge])
    ])
