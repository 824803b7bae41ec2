"""Sheets: squares of the plane with a number at each corner, and the steps through their triangles ([24])."""

from levelskins.blocks import are_numbers, kinds_at, worth_by
from levelskins.cycles import sides_of
from levelskins.forms import is_number_from, is_tuple_of
from levelskins.grids import SIDE

MOST_SQUARES = 8


def is_sheet(thing):
    """Whether it is a sheet, whatever it is."""
    if not is_tuple_of(thing, 2) or not is_tuple_of(thing[0], 2):
        return False
    sizes, numbers = thing
    if not all([is_number_from(size, 1, MOST_SQUARES) for size in sizes]):
        return False
    return are_numbers(numbers, len(sheet_corners(sizes)))


def sheet_corners(sizes):
    """The corners of the squares, rising."""
    a, b = sizes
    return [(SIDE * i, SIDE * j) for i in range(a + 1) for j in range(b + 1)]


def sheet_triangles(sizes):
    """The triangles of all squares, each gone round against the clock."""
    a, b = sizes
    lows = [(SIDE * i, SIDE * j) for i in range(a) for j in range(b)]
    return [triangle for low in lows for triangle in square_triangles(low)]


def square_triangles(low):
    """The four triangles of a square with this lowest point."""
    x, y = low
    middle = (x + SIDE // 2, y + SIDE // 2)
    ring = [low, (x + SIDE, y), (x + SIDE, y + SIDE), (x, y + SIDE)]
    return [(middle, p, q) for p, q in sides_of(ring)]


def sheet_kinds(sheet, level):
    """For each point of the sheet 1 if it is high, else 0."""
    sizes, numbers = sheet
    known = dict(zip(sheet_corners(sizes), numbers))
    told = sorted({point for triangle in sheet_triangles(sizes) for point in triangle})
    return kinds_at({point: worth_by(known, point) for point in told}, level)


def steps(sheet, level):
    """The steps through all triangles with points of both kinds, rising."""
    kinds = sheet_kinds(sheet, level)
    return tuple(sorted([
        step for triangle in sheet_triangles(sheet[0]) for step in steps_in(kinds, triangle)
    ]))


def steps_in(kinds, triangle):
    """The step through a triangle, alone in a list, or none."""
    ties = sides_of(triangle)
    # Against the clock one comes from the high points to the low ones where a step that has the high ones at its
    # left hand begins, and back to them where it ends.
    begins = [(one, other) for one, other in ties if kinds[one] > kinds[other]]
    ends = [(other, one) for one, other in ties if kinds[one] < kinds[other]]
    return list(zip(begins, ends))
