"""Pieces of skins: what each wedge has of them ([11], [12])."""

from levelskins.blocks import kinds_by
from levelskins.cycles import least_first
from levelskins.mesh import points_in, wedges

# Rising, so a row stands at the number that its kinds, read as binary figures, come to.
TABLE = (
    ((0, 0, 0, 0), ()),
    ((0, 0, 0, 1), ((3, 0), (3, 2), (3, 1))),
    ((0, 0, 1, 0), ((2, 0), (2, 1), (2, 3))),
    ((0, 0, 1, 1), ((2, 0), (2, 1), (3, 1), (3, 0))),
    ((0, 1, 0, 0), ((1, 0), (1, 3), (1, 2))),
    ((0, 1, 0, 1), ((1, 0), (3, 0), (3, 2), (1, 2))),
    ((0, 1, 1, 0), ((1, 0), (1, 3), (2, 3), (2, 0))),
    ((0, 1, 1, 1), ((1, 0), (3, 0), (2, 0))),
    ((1, 0, 0, 0), ((0, 1), (0, 2), (0, 3))),
    ((1, 0, 0, 1), ((0, 1), (0, 2), (3, 2), (3, 1))),
    ((1, 0, 1, 0), ((0, 1), (2, 1), (2, 3), (0, 3))),
    ((1, 0, 1, 1), ((0, 1), (2, 1), (3, 1))),
    ((1, 1, 0, 0), ((0, 2), (0, 3), (1, 3), (1, 2))),
    ((1, 1, 0, 1), ((0, 2), (3, 2), (1, 2))),
    ((1, 1, 1, 0), ((0, 3), (1, 3), (2, 3))),
    ((1, 1, 1, 1), ()),
)


def table():
    """For each tuple of four kinds, rising, the cycle of a wedge whose points are of them."""
    return TABLE


def piece_in(block, level, wedge):
    """The piece in the wedge, a cycle or ()."""
    return piece_by(kinds_by(block, level, wedge), wedge)


def piece_by(kinds, wedge):
    """As piece_in, where these are the kinds of the points."""
    m, f, p, q = [kinds[point] for point in wedge]
    cycle = TABLE[8 * m + 4 * f + 2 * p + q][1]
    if not cycle:
        return ()
    return least_first(tuple([(wedge[high], wedge[low]) for high, low in cycle]))


def pieces(block, level):
    """For each wedge with a piece, rising, itself and the piece."""
    told = wedges(block[0])
    kinds = kinds_by(block, level, points_in(told))
    found = [(wedge, piece_by(kinds, wedge)) for wedge in told]
    return tuple([(wedge, cycle) for wedge, cycle in found if cycle])


def skin(block, level):
    """The pieces of all wedges, in the order of the wedges."""
    return tuple([cycle for wedge, cycle in pieces(block, level)])
