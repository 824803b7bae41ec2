"""Standings: a block at a level with its skin cell by cell, made anew only where something changed ([28])."""

from levelskins.blocks import kinds_at, worths_by
from levelskins.grids import cell_middle
from levelskins.mesh import points_in, wedges_by_cell
from levelskins.pieces import piece_by


class Standing:
    """A block, a level and what was made of both; nothing in it is changed once it is made."""

    def __init__(self, block, level, by_cell, signs, cycles):
        self.block = block
        self.level = level
        self.by_cell = by_cell
        self.signs = signs
        self.cycles = cycles


def nothing():
    """What stands ahead of the first block: it has no cell, so all cells behind it are made anew."""
    return Standing(((), ()), 0, {}, {}, {})


def following(ahead, block, level):
    """The standing of this block and level, and the cells made anew, rising; what the others have is kept."""
    by_cell = ahead.by_cell if ahead.block[0] == block[0] else wedges_by_cell(block[0])
    worths = worths_by(block, points_in([wedge for cell in by_cell for wedge in by_cell[cell]]))
    kinds = kinds_at(worths, level)
    signs = {point: (worths[point], kinds[point]) for point in worths}
    told = changed_cells(ahead, by_cell, signs)
    fresh = {cell: cycles_in(kinds, by_cell[cell]) for cell in told}
    cycles = {cell: fresh[cell] if cell in fresh else ahead.cycles[cell] for cell in by_cell}
    return (Standing(block, level, by_cell, signs, cycles), told)


def changed_cells(ahead, by_cell, signs):
    """The cells that have a wedge which wasn't there ahead, or one with a point of another worth or kind."""
    known = {wedge: True for cell in ahead.by_cell for wedge in ahead.by_cell[cell]}
    changed = {point: True for point in signs if ahead.signs.get(point) != signs[point]}
    return tuple([
        cell for cell in by_cell
        if any([wedge not in known or any([point in changed for point in wedge]) for wedge in by_cell[cell]])
    ])


def cycles_in(kinds, told):
    """The pieces in these wedges, in their order."""
    found = [piece_by(kinds, wedge) for wedge in told]
    return tuple([cycle for cycle in found if cycle])


def whole_skin(standing):
    """The cycles of all cells, in the order of the wedges."""
    # A wedge begins with its cell's middle, and cells of unlike sides do not lie in the order of their middles.
    order = sorted(standing.cycles, key=cell_middle)
    return tuple([cycle for cell in order for cycle in standing.cycles[cell]])
