"""Things told in turn, which have no first one of their own."""


def least_first(told):
    """The same tuple, not empty, turned on until its least thing is the first one."""
    at = told.index(min(told))
    return told[at:] + told[:at]
