"""How regions of high points are born and end as the level falls ([23])."""

from levelskins.blocks import EIGHTHS, worths_by
from levelskins.links import linked
from levelskins.mesh import points_in, ties_in, wedges


def sweep(block):
    """("born", point) and ("ends", point, born, other), in the order in which the points become high."""
    whole = wedges(block[0])
    worths = worths_by(block, points_in(whole))
    links = linked(worths, ties_in(whole))
    births, homes, ended = [], {}, {}
    events = []
    for point in falling(worths):
        # Regions are told by how many were born ahead of them, so the one that was born first is the least.
        met = sorted({goes_on(ended, homes[other]) for other in links[point] if other in homes})
        if not met:
            met = [len(births)]
            births.append(point)
            events.append(("born", point))
        homes[point] = met[0]
        for region in met[1:]:
            ended[region] = met[0]
            events.append(("ends", point, births[region], births[met[0]]))
    return tuple(events)


def falling(worths):
    """The points of greater worth first, of like worth rising."""
    return sorted(worths, key=lambda point: (-worths[point], point))


def goes_on(ended, region):
    """The region in which this one goes on, by the one into which each has ended."""
    while region in ended:
        region = ended[region]
    return region


def count_at(block, events, level):
    """How many of the events by points that are high at the level are "born", less those that are "ends"."""
    worths = worths_by(block, [event[1] for event in events])
    return sum([1 if event[0] == "born" else -1 for event in events if worths[event[1]] >= EIGHTHS * level])
