"""Lids, which close the skin at the rim, and the volume within both ([20], [21])."""

from levelskins.blocks import kinds_by, numbers_at
from levelskins.cycles import least_first, sides_of
from levelskins.grids import on_one_side
from levelskins.mesh import points_in, wedges
from levelskins.places import spot_by
from levelskins.ratios import fraction, total
from levelskins.space import determinant


def lids(block, level):
    """The high parts of all triangles on the rim, rising."""
    sizes = block[0][0]
    whole = wedges(block[0])
    kinds = kinds_by(block, level, points_in(whole))
    # A cell's middle is never on the rim. As turn is above 0, a wedge's other three points go against the clock
    # as seen from where the cell isn't.
    outer = [wedge[1:] for wedge in whole if on_one_side(sizes, wedge[1:])]
    told = [high_part(kinds, triangle) for triangle in outer]
    return tuple(sorted([lid for lid in told if lid]))


def high_part(kinds, triangle):
    """The lid of three points in turn, or () if none of them is high."""
    ring = []
    for one, other in sides_of(triangle):
        if kinds[one]:
            ring.append((one, one))
        if kinds[one] != kinds[other]:
            ring.append((one, other) if kinds[one] else (other, one))
    return least_first(tuple(ring)) if ring else ()


def volume_by(block, level, cycles, lids):
    """The volume within these cycles and lids, which look outwards: a fraction."""
    told = list(cycles) + list(lids)
    spots = spots_by(numbers_at(block), level, told)
    triples = [
        (spots[ring[0]], spots[one], spots[other])
        for ring in told for one, other in zip(ring[1:], ring[2:])
    ]
    return total([sixth_of(triple) for triple in triples])


def spots_by(numbers, level, told):
    """The place of each thing in these cycles and lids, as three numbers and one to divide them by."""
    things = sorted({thing for ring in told for thing in ring})
    return {thing: (thing[0], 1) if thing[0] == thing[1] else spot_by(numbers, level, thing) for thing in things}


def sixth_of(triple):
    """The sixth part of the determinant of three places."""
    (one, by), (other, other_by), (third, third_by) = triple
    return fraction(determinant(one, other, third), 6 * by * other_by * third_by)
