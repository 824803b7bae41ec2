"""Words of the document, written out once more: what the tests hold the program's answers against."""

from itertools import product

from levelskins.grids import cells, corners, faces
from levelskins.mesh import ties


def worths_by_words(block):
    """The worth of each point of the mesh: of all cells' middles, of all faces', then of all corners."""
    grid, numbers = block
    number_at = dict(zip(corners(grid), numbers))
    told = {}
    for low, side in cells(grid):
        around = [tuple(map(sum, zip(low, by))) for by in product((0, side), repeat=3)]
        told[tuple(number + side // 2 for number in low)] = sum(number_at[corner] for corner in around)
    for low, side, across in faces(grid):
        reach = [(0,) if axis == across else (0, side) for axis in range(3)]
        around = [tuple(map(sum, zip(low, by))) for by in product(*reach)]
        middle = tuple(number + (0 if axis == across else side // 2) for axis, number in enumerate(low))
        told[middle] = 2 * sum(number_at[corner] for corner in around)
    told.update({corner: 8 * number for corner, number in number_at.items()})
    return told


def kinds_by_words(block, level):
    """Whether each point of the mesh is high."""
    return {point: number >= 8 * level for point, number in worths_by_words(block).items()}


def regions_by_words(block, level):
    """Points put together as long as a tie between points of one kind leads from one region to another."""
    kinds = kinds_by_words(block, level)
    home = {point: {point} for point in kinds}
    for one, other in ties(block[0]):
        if kinds[one] == kinds[other] and home[one] is not home[other]:
            both = home[one] | home[other]
            home.update({point: both for point in both})
    told = {tuple(sorted(region)) for region in home.values()}
    return tuple(tuple(sorted(region for region in told if kinds[region[0]] is kind)) for kind in (True, False))


def sheet_worths_by_words(sheet):
    """The worth of each point of a sheet: of its corners, then of the squares' middles."""
    (a, b), numbers = sheet
    told = {(4 * at, 4 * up): 8 * numbers[at * (b + 1) + up] for at in range(a + 1) for up in range(b + 1)}
    for x, y in product(range(0, 4 * a, 4), range(0, 4 * b, 4)):
        told[x + 2, y + 2] = sum(told[x + by, y + up] for by in (0, 4) for up in (0, 4)) // 4
    return told


def sheet_kinds_by_words(sheet, level):
    """Whether each point of a sheet is high."""
    return {point: number >= 8 * level for point, number in sheet_worths_by_words(sheet).items()}


def sheet_triangles_by_words(sizes):
    """A middle and two corners next to one another, in any turn."""
    for x, y in product(range(2, 4 * sizes[0], 4), range(2, 4 * sizes[1], 4)):
        for by, up in ((-2, 0), (2, 0), (0, -2), (0, 2)):
            one = (x + by, y - 2) if by else (x - 2, y + up)
            other = (x + by, y + 2) if by else (x + 2, y + up)
            yield ((x, y), one, other)
