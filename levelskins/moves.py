"""Moves: boxes turned and mirrored ([26])."""

from levelskins.cycles import least_first
from levelskins.grids import corners, last_place, top_of
from levelskins.skins import turned_back


def moved_point(sizes, move, point):
    """Where the move brings a point of the box of these sizes."""
    return moved_within(top_of(sizes), move, point)


def moved_within(top, move, point):
    """Where the move brings a point, told from (0, 0, 0) to the top."""
    axes, flips = move
    return tuple([top[axis] - point[axis] if flip else point[axis] for axis, flip in zip(axes, flips)])


def moved(block, move):
    """The block with moved corners, each with its number."""
    grid, numbers = block
    points = [moved_point(grid[0], move, corner) for corner in corners(grid)]
    rows = sorted(list(zip(points, numbers)))
    return (moved_grid(grid, move), tuple([number for point, number in rows]))


def moved_grid(grid, move):
    """The grid with moved places."""
    sizes, split = grid
    last = last_place(sizes)
    places = sorted([moved_within(last, move, place) for place in split])
    return (tuple([sizes[axis] for axis in move[0]]), tuple(places))


def moved_cycles(sizes, move, cycles):
    """The cycles of moved knots, turned back by a mirror, rising."""
    told = [tuple([moved_knot(sizes, move, knot) for knot in cycle]) for cycle in cycles]
    mirrored = mirror(move)
    return tuple(sorted([turned_back(cycle) if mirrored else least_first(cycle) for cycle in told]))


def moved_knot(sizes, move, knot):
    """The knot with moved points."""
    return (moved_point(sizes, move, knot[0]), moved_point(sizes, move, knot[1]))


def mirror(move):
    """Whether the move is a mirror, which no turning comes to."""
    axes, flips = move
    swapped = [one for one, other in ((0, 1), (0, 2), (1, 2)) if axes[one] > axes[other]]
    return (len(swapped) + sum(flips)) % 2 == 1


def then(move, other):
    """The move that does what both do, the other one behind."""
    axes, flips = move
    order, turns = other
    return (
        tuple([axes[axis] for axis in order]),
        tuple([flips[axis] ^ flip for axis, flip in zip(order, turns)]),
    )


def undone(move):
    """The move that brings back what this one moved."""
    axes, flips = move
    order = tuple([axes.index(axis) for axis in range(3)])
    return (order, tuple([flips[axis] for axis in order]))
