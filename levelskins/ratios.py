"""Fractions in lowest terms ([3])."""


def fraction(above, below):
    """The fraction above / below; below may be any number but 0."""
    common = common_divisor(above, below)
    if below < 0:
        common = -common
    return (above // common, below // common)


def common_divisor(one, other):
    """The greatest common divisor, from 0 on."""
    one, other = abs(one), abs(other)
    while other:
        one, other = other, one % other
    return one
