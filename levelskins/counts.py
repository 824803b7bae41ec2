"""What skins come to: their knots, sides and cycles, and the handles and rims of their parts ([15])."""

from levelskins.cycles import sides_of
from levelskins.skins import parts, rims


def counts(cycles):
    """How many knots, sides and cycles there are; a side and that turned back count once."""
    knots = len({knot for cycle in cycles for knot in cycle})
    sides = len({(min(side), max(side)) for cycle in cycles for side in sides_of(cycle)})
    return (knots, sides, len(cycles))


def euler(cycles):
    """The knots less the sides, and the cycles."""
    knots, sides, many = counts(cycles)
    return knots - sides + many


def holes(cycles):
    """For each part of a skin, in order, how many handles and rims it has."""
    return tuple([holes_of(tuple([cycles[number] for number in part])) for part in parts(cycles)])


def holes_of(cycles):
    """The handles and rims of a skin of one part."""
    rings = len(rims(cycles))
    return ((2 - euler(cycles) - rings) // 2, rings)
