"""Points of space: steps, midsts, determinants."""


def stepped(point, axis, by):
    """The point that lies so far along the axis."""
    return point[:axis] + (point[axis] + by,) + point[axis + 1:]


def difference(one, other):
    """What leads from the other point to the one."""
    return (one[0] - other[0], one[1] - other[1], one[2] - other[2])


def midst_of(one, other):
    """The point in the midst of two that lie evenly far from one another along each axis."""
    return ((one[0] + other[0]) // 2, (one[1] + other[1]) // 2, (one[2] + other[2]) // 2)


def determinant(one, other, third):
    """The determinant of three tuples of three numbers."""
    a, b, c = one
    d, e, f = other
    g, h, i = third
    return a * (e * i - f * h) - b * (d * i - f * g) + c * (d * h - e * g)


def cube_corners(low, side):
    """The eight corners of a cube, rising."""
    x, y, z = low
    return [(u, v, w) for u in (x, x + side) for v in (y, y + side) for w in (z, z + side)]


def square_corners(low, side, axis):
    """The four corners of a square that stands across the axis, going round, the lesser other axis first."""
    lesser, greater = [other for other in range(3) if other != axis]
    second = stepped(low, lesser, side)
    return [low, second, stepped(second, greater, side), stepped(low, greater, side)]
