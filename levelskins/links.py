"""Things linked in pairs: the groups in which one comes from each to each, and the ways and rings that they make."""


def linked(things, pairs):
    """For each thing those to which a pair links it."""
    links = {thing: [] for thing in things}
    for one, other in pairs:
        links[one].append(other)
        links[other].append(one)
    return links


def groups(links):
    """Rising tuples of the things between which one comes by links, step by step; rising."""
    seen = {}
    told = []
    # Each group is begun at its least thing, so the groups come rising.
    for start in sorted(links):
        if start not in seen:
            group = reached(links, start)
            told.append(tuple(sorted(group)))
            for thing in group:
                seen[thing] = True
    return tuple(told)


def reached(links, start):
    """All things to which one comes from the start, as keys."""
    found = {start: True}
    waiting = [start]
    while waiting:
        thing = waiting.pop()
        for other in links[thing]:
            if other not in found:
                found[other] = True
                waiting.append(other)
    return found


def ways_and_rings(following):
    """Of things that have one to follow them, which follows no other: the ways, the rings; least starts first."""
    left = {thing: following[thing] for thing in following}
    starts = sorted(set(following) - set(list(following.values())))
    ways = [chain_from(left, start) for start in starts]
    rings = []
    # What is left are rings, each begun at its least thing.
    for start in sorted(following):
        if start in left:
            rings.append(chain_from(left, start)[:-1])
    return ways, rings


def chain_from(left, start):
    """The things from the start on; those that have one to follow them are taken from what is left."""
    told = [start]
    # A ring ends where it began, as the start was taken first: the start stands at both its ends.
    while told[-1] in left:
        told.append(left.pop(told[-1]))
    return tuple(told)
