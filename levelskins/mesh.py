"""The mesh of a grid: wedges, and their points, ties and triangles ([7])."""

from levelskins.cycles import sides_of
from levelskins.grids import cell_middle, cells, corner_marks, face_middle, faces_of, round_by
from levelskins.space import determinant, difference


def turn(wedge):
    """Six times the volume of four points, with its sign."""
    m, f, p, q = wedge
    return determinant(difference(f, m), difference(p, m), difference(q, m))


def wedges_of(grid, cell):
    """The wedges of a cell, rising."""
    return tuple(sorted(wedges_by(grid, corner_marks(grid), cell)))


def wedges_by(grid, marks, cell):
    """The wedges of a cell of a grid whose corners are these marks, in any order."""
    return [
        wedge for face in faces_of(grid, cell)
        for wedge in fan(cell_middle(cell), face_middle(face), round_by(marks, face))
    ]


def fan(m, f, ring):
    """The wedges between a cell's middle and a face's, round which these points go."""
    return [upright((m, f, p, q)) for p, q in sides_of(ring)]


def upright(wedge):
    """The wedge with its last two points in the order in which its turn is above 0."""
    m, f, p, q = wedge
    return wedge if turn(wedge) > 0 else (m, f, q, p)


def wedges(grid):
    """All wedges, rising."""
    by_cell = wedges_by_cell(grid)
    return tuple(sorted([wedge for cell in by_cell for wedge in by_cell[cell]]))


def wedges_by_cell(grid):
    """For each cell, these rising, its wedges, rising."""
    marks = corner_marks(grid)
    return {cell: tuple(sorted(wedges_by(grid, marks, cell))) for cell in cells(grid)}


def points(grid):
    """The points of all wedges, rising."""
    return points_in(wedges(grid))


def points_in(told):
    """The points of these wedges, each once, rising."""
    return tuple(sorted({point for wedge in told for point in wedge}))


def ties(grid):
    """The ties, rising."""
    return ties_in(wedges(grid))


def ties_in(told):
    """The ties of these wedges, each once, rising."""
    return tuple(sorted({tie for wedge in told for tie in ties_of(wedge)}))


def ties_of(wedge):
    """The six ties of a wedge."""
    a, b, c, d = sorted(wedge)
    return [(a, b), (a, c), (a, d), (b, c), (b, d), (c, d)]


def triangles(grid):
    """The triangles, rising."""
    return triangles_in(wedges(grid))


def triangles_in(told):
    """The triangles of these wedges, each once, rising."""
    return tuple(sorted({triangle for wedge in told for triangle in triangles_of(wedge)}))


def triangles_of(wedge):
    """The four triangles of a wedge; of each the lacking point stands at the same place in its sorted points."""
    a, b, c, d = sorted(wedge)
    return [(b, c, d), (a, c, d), (a, b, d), (a, b, c)]
