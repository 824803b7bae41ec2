"""Keepers: a block and a level that change by deeds, and the skin that follows them ([27] to [30])."""

from levelskins.deeds import after
from levelskins.errors import Busy, NoCell, NothingBack
from levelskins.standings import following, nothing, whole_skin
from levelskins.words import show

BACKS = 30
LINES = 8


class Keeper:
    """A block at a level, with its skin."""

    def __init__(self, block, level):
        self.standing = nothing()
        self.many_made = 0
        self.pasts = []
        self.notes = []
        self.busy = False
        self.come_to(block, level)

    def its_block(self):
        """The block."""
        return self.standing.block

    def its_level(self):
        """The level."""
        return self.standing.level

    def its_skin(self):
        """The skin, in the order of the wedges."""
        return whole_skin(self.standing)

    def its_cycles(self, cell):
        """The skin's cycles in the cell's wedges, in their order."""
        if cell not in self.standing.cycles:
            raise NoCell(cell)
        return self.standing.cycles[cell]

    def made(self):
        """How many cells were made since it began."""
        return self.many_made

    def log(self):
        """The last begins and ends of rows of deeds that were tried."""
        return tuple(self.notes[-LINES:])

    def __len__(self):
        """How many cycles the skin has."""
        return len(self.its_skin())

    def __eq__(self, other):
        """Whether it is a keeper of the same block and level."""
        return (
            isinstance(other, Keeper)
            and self.its_block() == other.its_block() and self.its_level() == other.its_level()
        )

    def __str__(self):
        """The block's text and a line with the level."""
        return f"{show(self.its_block())}level {self.its_level()}\n"

    def renumber(self, corner, number):
        """The corner has this number from now on; tells the cells made anew."""
        return self.done_alone(("renumber", corner, number))

    def relevel(self, level):
        """This is the level from now on; tells the cells made anew."""
        return self.done_alone(("relevel", level))

    def cut(self, place, numbers):
        """The place is split, with these numbers for the corners that come new; tells the cells made anew."""
        return self.done_alone(("cut", place, numbers))

    def heal(self, place):
        """The place is split no longer; tells the cells made anew."""
        return self.done_alone(("heal", place))

    def back(self):
        """The last deed that stands is undone; tells the cells made anew."""
        self.refuse_if_busy()
        if not self.pasts:
            raise NothingBack("no deed stands")
        block, level = self.pasts[-1]
        self.pasts = self.pasts[:-1]
        return self.come_to(block, level)

    def tried(self, deeds, *, tell=None):
        """All these deeds or none of them, as one deed; tells the cells made anew by each."""
        self.refuse_if_busy()
        # A copy, as what is handed in may be changed by tell.
        rows = tuple(deeds)
        ahead = self.standing
        behind, stand = ahead, 0
        self.notes = self.notes[-LINES:] + [("begin", len(rows))]
        try:
            told = tuple([self.tried_one(deed, tell) for deed in rows])
            behind, stand = self.standing, len(rows)
        finally:
            self.standing = behind
            self.notes = self.notes + [("end", stand)]
        self.keep_past(ahead)
        return told

    def tried_one(self, deed, tell):
        """One of the deeds that are tried; tell hears of it, and no deed is done meanwhile."""
        told = self.done(deed)
        if tell is not None:
            self.busy = True
            try:
                tell(self)
            finally:
                self.busy = False
        return told

    def done_alone(self, deed):
        """A deed that can be undone by itself."""
        self.refuse_if_busy()
        ahead = self.standing
        told = self.done(deed)
        self.keep_past(ahead)
        return told

    def done(self, deed):
        """A deed; tells the cells made anew."""
        block, level = after(self.standing.block, self.standing.level, deed)
        return self.come_to(block, level)

    def come_to(self, block, level):
        """The block and the level from now on; tells the cells made anew."""
        self.standing, told = following(self.standing, block, level)
        self.many_made += len(told)
        return told

    def keep_past(self, ahead):
        """What stood ahead of a deed, for undoing it."""
        self.pasts = (self.pasts + [(ahead.block, ahead.level)])[-BACKS:]

    def refuse_if_busy(self):
        """Busy within tell."""
        if self.busy:
            raise Busy("a row of deeds is being tried")
