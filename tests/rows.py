"""Rows of deeds, and what they must come to: shared by the tests of keepers."""

from levelskins.grids import cells, corners
from levelskins.keepers import Keeper
from levelskins.mesh import wedges, wedges_of
from levelskins.pieces import skin
from tests.samples import assert_rising, places
from tests.words import worths_by_words


def done(keeper, deed):
    """What the keeper's own method tells of a deed that is written as for tried."""
    word, *told = deed
    return getattr(keeper, word)(*told)


def new_corners(grid, place):
    """The corners that come new where the place is cut, rising."""
    sizes, split = grid
    return [corner for corner in corners((sizes, tuple(sorted(split + (place,))))) if corner not in corners(grid)]


def some_deed(picked, block, spread=3):
    """Any deed that is not refused."""
    grid, _ = block
    sizes, split = grid
    words = ["renumber", "relevel"] + ["cut"] * (len(split) < len(places(sizes))) + ["heal"] * bool(split)
    word = picked.choice(words)
    if word == "renumber":
        return (word, picked.choice(corners(grid)), picked.randint(-spread, spread))
    if word == "relevel":
        return (word, picked.randint(-spread, spread))
    if word == "heal":
        return (word, picked.choice(split))
    place = picked.choice([place for place in places(sizes) if place not in split])
    numbers = [picked.randint(-spread, spread) for _ in new_corners(grid, place)]
    return (word, place, picked.choice([list, tuple])(numbers))


def behind(block, level, deed):
    """The block and the level behind a deed: the words of [28], written out once more."""
    (sizes, split), numbers = block
    number_at = dict(zip(corners(block[0]), numbers))
    word, *told = deed
    if word == "relevel":
        level = told[0]
    elif word == "renumber":
        number_at[told[0]] = told[1]
    elif word == "heal":
        split = tuple(place for place in split if place != told[0])
    else:
        number_at.update(zip(new_corners(block[0], told[0]), told[1]))
        split = tuple(sorted(split + (told[0],)))
    grid = (sizes, split)
    return (grid, tuple(number_at[corner] for corner in corners(grid))), level


def made_anew(ahead, after):
    """The cells that a deed makes anew, from a block and a level to others: the words of [28], written out once more."""
    (block, level), (new_block, new_level) = ahead, after
    known = set(wedges(block[0]))
    worths, new_worths = worths_by_words(block), worths_by_words(new_block)

    def is_as_it_was(point):
        was, now = worths[point], new_worths[point]
        return was == now and (was >= 8 * level) == (now >= 8 * new_level)

    return tuple(
        cell for cell in cells(new_block[0])
        if not all(
            wedge in known and all(is_as_it_was(point) for point in wedge) for wedge in wedges_of(new_block[0], cell)
        )
    )


def stands(keeper):
    """All that can be asked of a keeper but made and log."""
    block = keeper.its_block()
    own = tuple(keeper.its_cycles(cell) for cell in cells(block[0]))
    return (block, keeper.its_level(), keeper.its_skin(), own, len(keeper), str(keeper))


def assert_stands(case, keeper, block, level):
    """The keeper is as one that is made anew of this block and level."""
    case.assertEqual(keeper.its_block(), block)
    case.assertEqual(keeper.its_level(), level)
    case.assertEqual(keeper.its_skin(), skin(block, level))
    case.assertTrue(keeper == Keeper(block, level))
    case.assertEqual(stands(keeper), stands(Keeper(block, level)))


def assert_told(case, told, ahead, after):
    """What a deed told is just the cells made anew."""
    assert_rising(case, told)
    case.assertEqual(told, made_anew(ahead, after))
