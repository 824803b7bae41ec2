"""Skins as tuples of cycles: whether they are closed, which cycles meet, their parts and rims ([13], [14])."""

from levelskins.cycles import least_first, sides_of
from levelskins.forms import is_point_from, is_tuple_of
from levelskins.grids import on_one_side, top_of
from levelskins.links import groups, linked, ways_and_rings


def closed_holds(sizes, thing):
    """Whether it is a tuple of cycles closed but at the rim of the box of these sizes, whatever it is."""
    top = top_of(sizes)
    if not isinstance(thing, tuple) or not all([is_cycle(top, part) for part in thing]):
        return False
    sides = [side for cycle in thing for side in sides_of(cycle)]
    having = {side: True for side in sides}
    if len(having) != len(sides):
        return False
    return all([back_of(side) in having or on_one_side(sizes, side[0] + side[1]) for side in sides])


def is_cycle(top, thing):
    """Whether it is a cycle of knots in the box with this highest point."""
    if not isinstance(thing, tuple) or len(thing) not in (3, 4):
        return False
    # Ordering comes last, as Python cannot order things of every kind.
    return all([is_pair(top, part) for part in thing]) and len(set(thing)) == len(thing) and thing[0] == min(thing)


def is_pair(top, thing):
    """Whether it is a pair of unlike points in the box with this highest point."""
    if not is_tuple_of(thing, 2) or thing[0] == thing[1]:
        return False
    return is_point_from(thing[0], (0, 0, 0), top) and is_point_from(thing[1], (0, 0, 0), top)


def back_of(side):
    """The side turned back."""
    return (side[1], side[0])


def turned_back(cycle):
    """The same knots in contrary turn, the least first."""
    return least_first(cycle[::-1])


def partners(cycles):
    """For each side, rising, itself, the number of its cycle, and that of the one that has it turned back or None."""
    owners = {side: number for number, cycle in enumerate(cycles) for side in sides_of(cycle)}
    return tuple([(side, owners[side], owners.get(back_of(side))) for side in sorted(owners)])


def parts(cycles):
    """The numbers of the cycles that are joined, step by step: a rising tuple of rising tuples."""
    # A side and that turned back tell the same of two cycles, so half of them are enough.
    joined = [(one, other) for side, one, other in partners(cycles) if other is not None and one < other]
    return groups(linked(list(range(len(cycles))), joined))


def rims(cycles):
    """The rings of sides that no cycle has turned back: a rising tuple of tuples of knots, the least first."""
    ways, rings = ways_and_rings({side[0]: side[1] for side, number, other in partners(cycles) if other is None})
    return tuple(rings)
