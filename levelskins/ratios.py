"""Fractions in lowest terms ([3])."""


def fraction(above, below):
    """The fraction above / below; below may be any number but 0."""
    common = common_divisor(above, below)
    if below < 0:
        common = -common
    return (above // common, below // common)


def common_divisor(one, other):
    """The greatest common divisor, from 0 on."""
    one, other = abs(one), abs(other)
    while other:
        one, other = other, one % other
    return one


def total(fractions):
    """What these fractions have together."""
    told = list(fractions)
    # Sums have longer numbers than what they are made of: added in pairs, most are still short.
    while len(told) > 1:
        told = [added(one, other) for one, other in zip(told[::2], told[1::2] + [(0, 1)])]
    return told[0] if told else (0, 1)


def added(one, other):
    """What two fractions have together."""
    return fraction(one[0] * other[1] + other[0] * one[1], one[1] * other[1])
