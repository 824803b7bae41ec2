"""Grids: boxes cut into places, some of them split; their cells, corners and faces ([4] to [6])."""

from levelskins.cycles import sides_of
from levelskins.forms import is_point_from, is_rising, is_tuple_of
from levelskins.space import cube_corners, midst_of, square_corners, stepped

MOST_SIZE = 3
MOST_PLACES = 8
SIDE = 4
HALF = 2


def is_grid(thing):
    """Whether it is a grid, whatever it is."""
    return is_tuple_of(thing, 2) and is_sizes(thing[0]) and is_split(thing[0], thing[1])


def is_sizes(thing):
    """Whether it is the sizes of some grid."""
    if not is_point_from(thing, (1, 1, 1), (MOST_SIZE, MOST_SIZE, MOST_SIZE)):
        return False
    return thing[0] * thing[1] * thing[2] <= MOST_PLACES


def is_split(sizes, thing):
    """Whether it is a rising tuple of places."""
    if not isinstance(thing, tuple):
        return False
    # Ordering comes last, as Python cannot order things of every kind.
    return all([is_place(sizes, place) for place in thing]) and is_rising(thing)


def is_place(sizes, thing):
    """Whether it is a place of the box of these sizes."""
    return is_point_from(thing, (0, 0, 0), last_place(sizes))


def last_place(sizes):
    """The last place of the box, which is the greatest along each axis."""
    return tuple([size - 1 for size in sizes])


def all_places(sizes):
    """The places of the box, rising."""
    a, b, c = sizes
    return [(i, j, k) for i in range(a) for j in range(b) for k in range(c)]


def low_of(place):
    """The lowest point of a place."""
    return tuple([SIDE * number for number in place])


def top_of(sizes):
    """The highest point of the box."""
    # It would be the lowest one of the place that follows the last along each axis.
    return low_of(sizes)


def on_one_side(sizes, points):
    """Whether all these points lie on one and the same side of the box."""
    top = top_of(sizes)
    return any([
        all([point[axis] == end for point in points])
        for axis in range(3) for end in (0, top[axis])
    ])


def cells(grid):
    """The cells, rising."""
    return tuple(sorted([cell for place in all_places(grid[0]) for cell in cells_at(grid, place)]))


def cells_at(grid, place):
    """The cells of one place, rising: a whole one or eight."""
    low = low_of(place)
    if place not in grid[1]:
        return [(low, SIDE)]
    return [(corner, HALF) for corner in cube_corners(low, HALF)]


def corners(grid):
    """The corners of all cells, rising."""
    return tuple(sorted({corner for low, side in cells(grid) for corner in cube_corners(low, side)}))


def corner_marks(grid):
    """The corners as keys, for asking often whether a point is one."""
    return {corner: True for corner in corners(grid)}


def faces_of(grid, cell):
    """The faces of a cell, rising."""
    return tuple(sorted([
        face for axis in range(3) for ahead in (False, True)
        for face in faces_towards(grid, cell, axis, ahead)
    ]))


def faces_towards(grid, cell, axis, ahead):
    """The faces of a cell across the axis: at its high end if ahead, else at its low end."""
    low, side = cell
    start = stepped(low, axis, side) if ahead else low
    place = tuple([number // SIDE for number in low])
    # A place beyond the box is never among the split ones, so the rim needs no case of its own.
    if side == SIDE and stepped(place, axis, 1 if ahead else -1) in grid[1]:
        return [(corner, HALF, axis) for corner in square_corners(start, HALF, axis)]
    return [(start, side, axis)]


def faces(grid):
    """The faces of all cells, each once, rising."""
    return tuple(sorted({face for cell in cells(grid) for face in faces_of(grid, cell)}))


def round_of(grid, face):
    """The points that one comes by going round the face."""
    return round_by(corner_marks(grid), face)


def round_by(marks, face):
    """As round_of, of a grid whose corners are these marks."""
    low, side, axis = face
    told = []
    for one, other in sides_of(square_corners(low, side, axis)):
        told.append(one)
        # In the midst of a side of length 2 never lies a corner: these are even along each axis.
        midst = midst_of(one, other)
        if midst in marks:
            told.append(midst)
    return tuple(told)


def face_middle(face):
    """The middle of a face."""
    low, side, axis = face
    ring = square_corners(low, side, axis)
    return midst_of(ring[0], ring[2])


def cell_middle(cell):
    """The middle of a cell."""
    low, side = cell
    return tuple([number + side // 2 for number in low])
