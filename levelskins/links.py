"""Things linked in pairs, and the groups in which one comes from each to each."""


def linked(things, pairs):
    """For each thing those to which a pair links it."""
    links = {thing: [] for thing in things}
    for one, other in pairs:
        links[one].append(other)
        links[other].append(one)
    return links


def groups(links):
    """Rising tuples of the things between which one comes by links, step by step; rising."""
    seen = {}
    told = []
    # Each group is begun at its least thing, so the groups come rising.
    for start in sorted(links):
        if start not in seen:
            group = reached(links, start)
            told.append(tuple(sorted(group)))
            for thing in group:
                seen[thing] = True
    return tuple(told)


def reached(links, start):
    """All things to which one comes from the start, as keys."""
    found = {start: True}
    waiting = [start]
    while waiting:
        thing = waiting.pop()
        for other in links[thing]:
            if other not in found:
                found[other] = True
                waiting.append(other)
    return found
