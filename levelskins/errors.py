"""The errors that levelskins raises ([30])."""


class SkinError(ValueError):
    """What was asked for cannot be done; the errors below it say why."""


class Outside(SkinError):
    """A number or a count is not within its range."""

    def __init__(self, what):
        super().__init__(f"outside of its range: {what!r}")
        self.what = what


class Doubled(SkinError):
    """A place is already as it was to become."""

    def __init__(self, place):
        super().__init__(f"the place is so already: {place!r}")
        self.place = place


class NothingBack(SkinError):
    """No deed stands that could be undone."""


class Busy(SkinError):
    """A deed was asked for in the midst of another one."""


class NoLine(SkinError):
    """A line of a text is not as it must be."""

    def __init__(self, at):
        super().__init__(f"not as it must be: line {at!r}")
        self.at = at


class NoPoint(LookupError):
    """The grid has no such corner."""

    def __init__(self, point):
        super().__init__(f"no such point: {point!r}")
        self.point = point


class NoPlace(LookupError):
    """The grid has no such place."""

    def __init__(self, place):
        super().__init__(f"no such place: {place!r}")
        self.place = place


class NoCell(LookupError):
    """The grid has no such cell."""

    def __init__(self, cell):
        super().__init__(f"no such cell: {cell!r}")
        self.cell = cell
