"""Regions: the points of one kind between which one comes by ties ([16])."""

from levelskins.blocks import kinds_by
from levelskins.forms import is_point_from
from levelskins.grids import top_of
from levelskins.links import groups, linked
from levelskins.mesh import points_in, ties_in, triangles_in, wedges


def regions(block, level):
    """The regions of high points and those of low ones, rising."""
    whole = wedges(block[0])
    return regions_by(kinds_by(block, level, points_in(whole)), ties_in(whole))


def regions_by(kinds, known):
    """As regions, of points of these kinds, with these ties between them."""
    like = [tie for tie in known if kinds[tie[0]] == kinds[tie[1]]]
    told = groups(linked(kinds, like))
    return tuple([tuple([region for region in told if kinds[region[0]] == kind]) for kind in (1, 0)])


def region_holds(block, level, thing):
    """Whether it is a region of either kind, whatever it is."""
    top = top_of(block[0][0])
    # Python takes truths for the numbers that they are equal to, so the form is asked for first.
    if not isinstance(thing, tuple) or not all([is_point_from(part, (0, 0, 0), top) for part in thing]):
        return False
    highs, lows = regions(block, level)
    return thing in highs or thing in lows


def own_counts(block, level):
    """Of high ones, of low ones: how many points, ties, triangles and wedges have only points of that kind."""
    whole = wedges(block[0])
    alone = [(point,) for point in points_in(whole)]
    kinds = kinds_by(block, level, points_in(whole))
    rows = [alone, ties_in(whole), triangles_in(whole), whole]
    return tuple([tuple([count_of_kind(kinds, kind, row) for row in rows]) for kind in (1, 0)])


def count_of_kind(kinds, kind, told):
    """How many of these tuples have only points of that kind."""
    return len([row for row in told if all([kinds[point] == kind for point in row])])
