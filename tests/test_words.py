"""[31]: blocks as texts."""

import random
import unittest

from levelskins.blocks import is_block
from levelskins.errors import NoLine, SkinError
from levelskins.grids import corners, is_grid
from levelskins.words import read, show
from tests.samples import ALL_SIZES, all_split, asked, block_of, places, sample_blocks, sample_grids

CELL = (((1, 1, 1), ()), (0, 1, -2, 30, -400, 5000, 9999, -9999))
CELL_TEXT = """sizes 1 1 1
0 0 0 0
0 0 4 1
0 4 0 -2
0 4 4 30
4 0 0 -400
4 0 4 5000
4 4 0 9999
4 4 4 -9999
"""
TWO = block_of(((2, 1, 1), ((1, 0, 0),)), corners, lambda corner: sum(corner) - 7)
THREE = block_of(((3, 1, 1), ((0, 0, 0), (2, 0, 0))), corners, lambda corner: 12 - sum(corner))


def begins_a_block(lines):
    """Whether a shown block's lines begin so: a block is guessed from these, with 0 where they tell no number yet."""
    words = [line.split() for line in lines]
    try:
        sizes = tuple(int(word) for word in words[0][1:])
        split = tuple(tuple(int(word) for word in row[1:]) for row in words if row[:1] == ["split"])
        told = {tuple(int(word) for word in row[:3]): int(row[3]) for row in words[1:] if row[:1] != ["split"]}
    except (ValueError, IndexError):
        return False
    if not is_grid((sizes, split)):
        return False
    block = block_of((sizes, split), corners, lambda corner: told.get(corner, 0))
    return is_block(block) and show(block).startswith("".join(line + "\n" for line in lines))


def first_wrong(text):
    """The words of [31] about NoLine, written out once more; None where there is no wrong line."""
    *lines, rest = text.split("\n")
    for at in range(len(lines)):
        if not begins_a_block(lines[:at + 1]):
            return at
    if rest or not lines or len(lines) < lacking(lines):
        return len(lines)
    return None


def lacking(lines):
    """How many lines a block has that begins so."""
    split = [line for line in lines if line.startswith("split")]
    grid = (tuple(int(word) for word in lines[0].split()[1:]),
            tuple(tuple(int(word) for word in line.split()[1:]) for line in split))
    return 1 + len(split) + len(corners(grid))


class Show(unittest.TestCase):
    def test_one_cell(self):
        self.assertEqual(show(CELL), CELL_TEXT)

    def test_a_split_place(self):
        lines = show(TWO).split("\n")
        self.assertEqual(lines[:5], ["sizes 2 1 1", "split 1 0 0", "0 0 0 -7", "0 0 4 -3", "0 4 0 -3"])
        self.assertEqual(lines[-3:], ["8 4 2 7", "8 4 4 9", ""])

    def test_split_places_rising(self):
        lines = show(THREE).split("\n")
        self.assertEqual(lines[:4], ["sizes 3 1 1", "split 0 0 0", "split 2 0 0", "0 0 0 12"])

    def test_by_words(self):
        for block in sample_blocks(corners, spread=9999):
            (sizes, split), numbers = block
            lines = ["sizes " + " ".join(map(str, sizes))]
            lines += ["split {} {} {}".format(*place) for place in split]
            lines += ["{} {} {} {}".format(*corner, number) for corner, number in zip(corners(block[0]), numbers)]
            told = asked(self, show, block)
            self.assertIs(type(told), str)
            self.assertEqual(told, "\n".join(lines) + "\n")


class Read(unittest.TestCase):
    def test_of_each_shown_text_the_block(self):
        for grid in sample_grids():
            picked = random.Random(len(grid[1]))
            block = block_of(grid, corners, lambda corner: picked.randint(-9999, 9999))
            told = asked(self, read, show(block))
            self.assertEqual(told, block)
            self.assertIs(is_block(told), True)

    def test_all_sizes(self):
        for sizes in ALL_SIZES:
            for grid in ((sizes, ()), all_split(sizes), (sizes, places(sizes)[-1:])):
                block = block_of(grid, corners, lambda corner: -sum(corner))
                self.assertEqual(read(show(block)), block)

    def test_numbers_of_any_length(self):
        for number in (0, 1, -1, 9, 10, -10, 99, 100, -100, 999, 1000, -1000, 9998, 9999, -9998, -9999):
            block = (((1, 1, 1), ()), (0,) * 7 + (number,))
            self.assertEqual(read(show(block)), block)


class Refused(unittest.TestCase):
    def refused(self, text, at):
        with self.assertRaises(NoLine) as caught:
            read(text)
        self.assertEqual(caught.exception.at, at, text)
        self.assertIs(type(caught.exception.at), int)
        self.assertIsInstance(caught.exception, SkinError)

    def by_words(self, text):
        """Reads the text or is refused, as the words tell; tells whether it was refused."""
        at = first_wrong(text)
        if at is None:
            self.assertEqual(show(read(text)), text)
            return False
        self.refused(text, at)
        return True

    def line_changed(self, at, line, text=CELL_TEXT):
        lines = text.split("\n")
        return "\n".join(lines[:at] + [line] + lines[at + 1:])

    def test_empty(self):
        self.refused("", 0)
        self.refused("\n", 0)
        self.refused("\n\n\n", 0)
        self.refused(" ", 0)
        self.refused("\n" + CELL_TEXT, 0)

    def test_numbers_of_corners(self):
        for number, held in (
            ("0", True), ("5", True), ("-5", True), ("9999", True), ("-9999", True), ("10000", False),
            ("-10000", False), ("99999", False), ("-0", False), ("00", False), ("05", False), ("-05", False),
            ("0000", False), ("00005", False), ("--5", False), ("5-", False), ("-", False), ("", False), ("a", False),
            ("5a", False), ("1 2", False), ("5 ", False), (" 5", False), ("9" * 15000, False), ("0" * 15000, False),
            ("-" + "1" * 15000, False), ("-" * 15000, False), ("x" * 15000, False),
        ):
            for at, corner in ((1, "0 0 0"), (4, "0 4 4"), (8, "4 4 4")):
                text = self.line_changed(at, f"{corner} {number}")
                if held:
                    self.assertEqual(read(text)[1][at - 1], int(number))
                else:
                    self.refused(text, at)

    def test_sizes(self):
        for line in (
            "sizes 0 1 1", "sizes 1 0 1", "sizes 1 1 0", "sizes 4 1 1", "sizes 1 1 4", "sizes 3 3 1", "sizes 3 1 3",
            "sizes 2 2 3", "sizes 3 3 3", "sizes 01 1 1", "sizes 1 1 01", "sizes 1 1", "sizes 1 1 1 1", "sizes",
            "sizes 1 1 -1", "sizes 1 1 -0", "size 1 1 1", "sizess 1 1 1", "1 1 1", " sizes 1 1 1", "sizes 1 1 1 ",
            "sizes  1 1 1", "sizes 1  1 1", "sizes 1 1 a", "sizes111", "split 0 0 0", "0 0 0 0", "", "sizes 9 1 1",
            "sizes 1 1 " + "1" * 15000,
        ):
            self.refused(self.line_changed(0, line), 0)
        # Where the sizes are others the first corner that these have and the text hasn't is told.
        self.refused(self.line_changed(0, "sizes 1 1 2"), 3)
        self.refused(self.line_changed(0, "sizes 2 1 1"), 9)

    def test_split_places(self):
        start = "sizes 2 1 1\n"
        for lines, at in (
            (["split 0 0 0", "split 0 0 0"], 2), (["split 1 0 0", "split 0 0 0"], 2), (["split 2 0 0"], 1),
            (["split 0 1 0"], 1), (["split 0 0 -1"], 1), (["split 0 0"], 1), (["split 0 0 0 0"], 1), (["split"], 1),
            (["split 00 0 0"], 1), (["split -0 0 0"], 1), (["split 0  0 0"], 1), (["split 0 0 0 "], 1),
            (["splits 0 0 0"], 1), (["split 0 0 0", "split 1 0 0", "split 1 0 0"], 3), (["split a 0 0"], 1),
            (["split 0 0 0", "split 1 0 0", "split 0 0 0"], 3), (["split 1 0 0", "split 2 0 0"], 2),
        ):
            self.refused(start + "".join(line + "\n" for line in lines), at)
            self.refused(start + "".join(line + "\n" for line in lines) + "0 0 0 1\n", at)

    def test_split_places_among_corners(self):
        lines = show(TWO).split("\n")
        split = lines.pop(1)
        # Without it the block has other corners: the first that it hasn't is (0, 4, 4)'s next one.
        self.refused("\n".join(lines), first_wrong("\n".join(lines)))
        for at in range(2, len(lines)):
            self.refused("\n".join(lines[:1] + [split] + lines[1:at] + [split] + lines[at:]), at + 1)

    def test_another_corner(self):
        for at, line in (
            (1, "0 0 4 1"), (1, "0 0 1 1"), (2, "0 0 0 0"), (3, "0 0 4 1"), (3, "2 2 2 1"), (8, "4 4 5 1"),
            (8, "8 4 4 1"), (4, "0 4 04 1"), (4, "0 4 -4 1"), (4, "0 4 1"), (4, "0 4 4"), (4, "0 4 4 "), (4, ""),
            (4, "0 4 4 1 1"), (4, "0  4 4 1"), (4, " 0 4 4 1"), (4, "0 4 4 1 "), (4, "044 1"), (5, "sizes 1 1 1"),
            (4, "0 4 41"), (6, "split 0 0 0"), (1, "split 0 0 1"), (1, "-0 0 0 5"), (1, "00 0 0 5"),
        ):
            self.refused(self.line_changed(at, line), at)

    def test_a_line_out_or_twice_or_exchanged(self):
        for block in (CELL, TWO, THREE):
            lines = show(block).splitlines()
            for at in range(len(lines)):
                for told in (
                    lines[:at] + lines[at + 1:], lines[:at + 1] + lines[at:],
                    lines[:at] + lines[at + 1:at + 2] + lines[at:at + 1] + lines[at + 2:],
                    lines[:at] + [""] + lines[at:],
                ):
                    self.by_words("".join(line + "\n" for line in told))

    def test_a_line_out(self):
        lines = CELL_TEXT.splitlines()
        for at in range(9):
            self.refused("".join(line + "\n" for line in lines[:at] + lines[at + 1:]), at)

    def test_one_more_behind(self):
        for more in ("\n", " \n", "4 4 4 1\n", "4 4 5 1\n", "sizes 1 1 1\n", "split 0 0 0\n", "x", " ", "\n\n", "a\nb"):
            self.refused(CELL_TEXT + more, 9)

    def test_no_line_end_behind_the_last(self):
        for block in (CELL, TWO, THREE):
            text = show(block)
            self.refused(text[:-1], text.count("\n") - 1)

    def test_cut_short_anywhere(self):
        for block in (CELL, TWO):
            text = show(block)
            for many in range(len(text)):
                self.refused(text[:many], text[:many].count("\n"))

    def test_the_first_of_several(self):
        text = self.line_changed(6, "4 0 4 -0", self.line_changed(3, "0 4 0 10000"))
        self.refused(text, 3)
        self.refused(self.line_changed(0, "sizes 0 1 1", text), 0)
        # A line without its end is no worse than one ahead of it, and isn't as it must be where none is ahead.
        self.refused(text[:-1], 3)
        self.refused("sizes 1 1 1\n0 0 0 5", 1)
        self.refused("sizes 1 1 1", 0)
        self.refused("sizes 1 1 1\n", 1)

    def test_any_sign_changed(self):
        picked = random.Random(7)
        refused = 0
        for block, every in ((CELL, 1), (TWO, 5), (THREE, 9)):
            text = show(block)
            for at in range(picked.randrange(every), len(text), every):
                for sign in ("", " ", "\n", "-", "0", "1", "4", "s", text[at] * 2):
                    refused += self.by_words(text[:at] + sign + text[at + 1:])
        self.assertGreater(refused, 1000)

    def test_any_signs(self):
        picked = random.Random(8)
        for _ in range(300):
            text = "".join(picked.choice("sizeplt 0123456789-\n") for _ in range(picked.randint(1, 60)))
            self.assertTrue(self.by_words(text))
            self.assertTrue(self.by_words("sizes 1 2 1\n" + text))

    def test_long_texts(self):
        for text in ("\n" * 20000, " " * 20000, "1" * 20000, "sizes 1 1 1\n" + "0 0 0 1\n" * 2000):
            self.by_words(text)
        self.refused("sizes 1 1 1\n" + "0 0 0 1\n" * 2000, 2)


if __name__ == "__main__":
    unittest.main()
