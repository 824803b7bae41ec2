"""Walks by ties, how often they cross the skin, and why they cannot cross it less often ([18])."""

from levelskins.blocks import kinds_by
from levelskins.forms import is_number, is_point_from, is_tuple_of
from levelskins.grids import top_of
from levelskins.links import linked
from levelskins.mesh import points, ties


def walk_holds(grid, thing):
    """Whether it is a walk in the mesh of the grid, whatever it is."""
    top = top_of(grid[0])
    if not isinstance(thing, tuple) or not all([is_point_from(part, (0, 0, 0), top) for part in thing]):
        return False
    if len(thing) < 2:
        return len(thing) == 1 and thing[0] in points(grid)
    known = {tie: True for tie in ties(grid)}
    return all([(min(step), max(step)) in known for step in steps_of(thing)])


def steps_of(walk):
    """Each two points next to one another."""
    return list(zip(walk, walk[1:]))


def crossed(block, level, walk):
    """How many of the walk's ties have ends of unlike kind."""
    kinds = kinds_by(block, level, walk)
    return len([point for point, following in steps_of(walk) if kinds[point] != kinds[following]])


def parted(block, level, one, other):
    """Either ("way", walk) from the one to the other without crossing or ("wall", the one's region)."""
    heights, ahead = spread(block, level, one)
    if heights[other] == 0:
        return ("way", walk_to(ahead, other))
    return ("wall", tuple([point for point in sorted(heights) if heights[point] == 0]))


def fewest(block, level, one, other):
    """How often one must cross from the one to the other, a walk that does so, heights that show it."""
    heights, ahead = spread(block, level, one)
    return (heights[other], walk_to(ahead, other), tuple([heights[point] for point in sorted(heights)]))


def spread(block, level, start):
    """For each point how often one must cross from the start to it, and the point ahead of it on such a walk."""
    grid = block[0]
    kinds = kinds_by(block, level, points(grid))
    links = linked(kinds, ties(grid))
    heights = {start: 0}
    ahead = {start: None}
    # A point that is found across a tie has the other kind, so no walk with one crossing less leads to it:
    # the height at which it is found first is its own, once all lesser heights are done.
    waiting, beyond = [start], []
    while waiting:
        point = waiting.pop(0)
        for other in links[point]:
            if other not in heights:
                ahead[other] = point
                heights[other] = heights[point] + abs(kinds[other] - kinds[point])
                if heights[other] == heights[point]:
                    waiting.append(other)
                else:
                    beyond.append(other)
        if not waiting:
            waiting, beyond = beyond, []
    return heights, ahead


def walk_to(ahead, end):
    """The walk to the end, by the point ahead of each."""
    walk = [end]
    while ahead[walk[-1]] is not None:
        walk.append(ahead[walk[-1]])
    return tuple(walk[::-1])


def heights_hold(block, level, thing):
    """Whether it is a number for each point, over ties as far apart as heights may be, whatever it is."""
    grid = block[0]
    told = points(grid)
    if not is_tuple_of(thing, len(told)) or not all([is_number(part) for part in thing]):
        return False
    heights = dict(zip(told, thing))
    kinds = kinds_by(block, level, told)
    return all([
        abs(heights[one] - heights[other]) <= abs(kinds[one] - kinds[other])
        for one, other in ties(grid)
    ])
