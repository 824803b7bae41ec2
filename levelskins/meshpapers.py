"""Whether a tuple of wedges fills a box face to face, and which wedges meet ([8])."""

from levelskins.forms import is_point_from, is_tuple_of
from levelskins.grids import on_one_side, top_of
from levelskins.mesh import triangles_of, turn, wedges

MOST_WEDGES = 2000


def mesh_holds(sizes, thing):
    """Whether it fills the box of these sizes face to face, whatever it is."""
    if not is_tuple_of_fours(sizes, thing) or len(set(thing)) != len(thing):
        return False
    turns = [turn(wedge) for wedge in thing]
    if any([one <= 0 for one in turns]) or sum(turns) != whole_turn(sizes):
        return False
    meetings = fourth_points(thing)
    return all([meets_well(sizes, triangle, meetings[triangle]) for triangle in meetings])


def is_tuple_of_fours(sizes, thing):
    """Whether it is a tuple, not too long, of tuples of four points in the box."""
    if not isinstance(thing, tuple) or len(thing) > MOST_WEDGES:
        return False
    top = top_of(sizes)
    return all([is_four(top, part) for part in thing])


def is_four(top, thing):
    """Whether it is a tuple of four points in the box with this highest point."""
    return is_tuple_of(thing, 4) and all([is_point_from(part, (0, 0, 0), top) for part in thing])


def whole_turn(sizes):
    """Six times the volume of the box."""
    x, y, z = top_of(sizes)
    return 6 * x * y * z


def fourth_points(told):
    """For each triangle of these wedges the fourth point of each wedge that has it."""
    found = {}
    for wedge in told:
        for fourth, triangle in zip(sorted(wedge), triangles_of(wedge)):
            found.setdefault(triangle, []).append(fourth)
    return found


def meets_well(sizes, triangle, fourths):
    """Whether wedges with these fourth points lie at the triangle as they must."""
    if len(fourths) == 1:
        return on_one_side(sizes, triangle)
    return len(fourths) == 2 and are_parted(triangle, fourths[0], fourths[1])


def are_parted(triangle, one, other):
    """Whether the triangle's plane lies between both points."""
    a, b, c = triangle
    return turn((a, b, c, one)) * turn((a, b, c, other)) < 0


def mates(grid):
    """For each triangle, rising, itself and the wedges that have it; None for the second on the rim."""
    found = {}
    # Wedges come rising, so those of one triangle do as well.
    for wedge in wedges(grid):
        for triangle in triangles_of(wedge):
            found.setdefault(triangle, []).append(wedge)
    return tuple([mates_row(triangle, found[triangle]) for triangle in sorted(found)])


def mates_row(triangle, both):
    """The triangle, its wedge, and its other wedge or None."""
    return (triangle, both[0], both[1] if len(both) > 1 else None)
