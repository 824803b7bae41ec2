"""Lines of steps through sheets, the areas between them, and the layers of blocks ([25])."""

from levelskins.blocks import numbers_at
from levelskins.grids import SIDE
from levelskins.links import ways_and_rings
from levelskins.regions import regions_by
from levelskins.sheets import sheet_corners, sheet_kinds, sheet_triangles, steps


def lines(sheet, level):
    """("ring", knots) and ("way", knots), each step in just one of them, rising."""
    ways, rings = ways_and_rings({one: other for one, other in steps(sheet, level)})
    # Both come rising, and "ring" is ahead of "way".
    return tuple([("ring", knots) for knots in rings] + [("way", knots) for knots in ways])


def areas(sheet, level):
    """The regions of high points and those of low ones, rising."""
    known = sorted({tie for triangle in sheet_triangles(sheet[0]) for tie in triangle_ties(triangle)})
    return regions_by(sheet_kinds(sheet, level), known)


def triangle_ties(triangle):
    """The three ties of a triangle."""
    a, b, c = sorted(triangle)
    return [(a, b), (a, c), (b, c)]


def layer(block, k):
    """The sheet of the corners at this height of a block without split places."""
    sizes = block[0][0][:2]
    numbers = numbers_at(block)
    return (sizes, tuple([numbers[(x, y, SIDE * k)] for x, y in sheet_corners(sizes)]))
