"""Questions about the form of things of any kind, for the checkers."""


def is_number(thing):
    """Whether it is a whole number; Python counts truths among them, the document does not."""
    return isinstance(thing, int) and not isinstance(thing, bool)


def is_number_from(thing, least, most):
    """Whether it is a number from least to most."""
    return is_number(thing) and least <= thing <= most


def is_tuple_of(thing, count):
    """Whether it is a tuple of so many things."""
    return isinstance(thing, tuple) and len(thing) == count


def is_point_from(thing, least, most):
    """Whether it is a point, along each axis from least's number to most's."""
    if not is_tuple_of(thing, 3):
        return False
    return all([is_number_from(number, low, high) for number, low, high in zip(thing, least, most)])


def is_rising(things):
    """Whether each of these, which Python can order, is above the one ahead."""
    return all([one < other for one, other in zip(things, things[1:])])
