"""Things told in turn, which have no first one of their own."""


def least_first(told):
    """The same tuple, not empty, turned on until its least thing is the first one."""
    at = told.index(min(told))
    return told[at:] + told[:at]


def sides_of(told):
    """Each thing with the next one, the last one with the first."""
    return list(zip(told, told[1:] + told[:1]))
