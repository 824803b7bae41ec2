"""Blocks as texts ([31])."""

from levelskins.blocks import MOST, in_range
from levelskins.errors import NoLine
from levelskins.forms import is_rising
from levelskins.grids import MOST_SIZE, all_places, corners, is_sizes

FIGURES = "0123456789"


def show(block):
    """The block's text."""
    grid, numbers = block
    sizes, split = grid
    rows = [("sizes",) + sizes] + [("split",) + place for place in split]
    rows += [corner + (number,) for corner, number in zip(corners(grid), numbers)]
    return "".join([shown(row) + "\n" for row in rows])


def shown(row):
    """A line without its end."""
    return " ".join([str(word) for word in row])


def read(text):
    """The block that has this text; NoLine where none has."""
    lines = text.split("\n")
    # Behind the last line end stands nothing, or a line that lacks its end.
    rest = lines.pop()
    sizes = read_sizes(lines)
    split = read_split(sizes, lines)
    numbers = read_numbers((sizes, split), lines)
    at = 1 + len(split) + len(numbers)
    if at < len(lines) or rest:
        raise NoLine(at)
    return ((sizes, split), numbers)


def read_sizes(lines):
    """The sizes in the first line."""
    # Sizes are counted from 1 on, places from 0 on.
    some = [(i + 1, j + 1, k + 1) for i, j, k in all_places((MOST_SIZE, MOST_SIZE, MOST_SIZE))]
    known = {shown(("sizes",) + sizes): sizes for sizes in some if is_sizes(sizes)}
    if not lines or lines[0] not in known:
        raise NoLine(0)
    return known[lines[0]]


def read_split(sizes, lines):
    """The places of as many lines behind the first one as tell split places, rising."""
    known = {shown(("split",) + place): place for place in all_places(sizes)}
    split = ()
    for line in lines[1:]:
        # What is none of these must tell the first corner; whether it does is asked where the numbers are read.
        if line not in known or not is_rising(split + (known[line],)):
            return split
        split = split + (known[line],)
    return split


def read_numbers(grid, lines):
    """The numbers of all corners, by the lines behind those of split places."""
    told = []
    for at, corner in enumerate(corners(grid), start=1 + len(grid[1])):
        if at >= len(lines) or not tells_number(corner, lines[at]):
            raise NoLine(at)
        told.append(int(lines[at][len(start_of(corner)):]))
    return tuple(told)


def start_of(corner):
    """What stands ahead of the corner's number."""
    return shown(corner) + " "


def tells_number(corner, line):
    """Whether the line tells the corner's number."""
    start = start_of(corner)
    return line.startswith(start) and is_number_word(line[len(start):])


def is_number_word(word):
    """Whether the word is a number such as a corner may bear, as it is written."""
    figures = word[1:] if word.startswith("-") else word
    # Python does not read numbers of very many figures, so a word that is too long is not asked for its number.
    if not figures or len(figures) > len(str(MOST)) or not all([sign in FIGURES for sign in figures]):
        return False
    number = int(word)
    return in_range(number) and str(number) == word
