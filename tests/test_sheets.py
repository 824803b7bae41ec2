"""[24]: sheets, and the steps through their triangles."""

import unittest

from levelskins.sheets import is_sheet, steps
from tests.samples import asked, assert_rising, is_int, odd_things, sample_sheets, variants
from tests.words import sheet_kinds_by_words, sheet_triangles_by_words, sheet_worths_by_words


def sheet_by_words(thing):
    """The words of [24], written out once more."""
    if type(thing) is not tuple or len(thing) != 2 or type(thing[0]) is not tuple or type(thing[1]) is not tuple:
        return False
    sizes, numbers = thing
    if len(sizes) != 2 or not all(is_int(size) and 1 <= size <= 8 for size in sizes):
        return False
    in_range = [is_int(number) and -9999 <= number <= 9999 for number in numbers]
    return all(in_range) and len(in_range) == (sizes[0] + 1) * (sizes[1] + 1)


def twice_midst(tie):
    """Twice the point in the midst of a tie: wherever on its tie a knot lies, high points are at the same hand."""
    return (tie[0][0] + tie[1][0], tie[0][1] + tie[1][1])


def hand(step, point):
    """Above 0 if the point is at the left hand of one who goes by the step."""
    (a, b), (c, d) = twice_midst(step[0]), twice_midst(step[1])
    return (c - a) * (2 * point[1] - b) - (d - b) * (2 * point[0] - a)


def steps_by_words(sheet, level):
    """The words of [24], written out once more."""
    kinds = sheet_kinds_by_words(sheet, level)
    told = []
    for triangle in sheet_triangles_by_words(sheet[0]):
        knots = [(one, other) for one in triangle for other in triangle if kinds[one] and not kinds[other]]
        if knots:
            one, other = knots
            left = all((hand((one, other), point) > 0) == kinds[point] for point in triangle)
            told.append((one, other) if left else (other, one))
    return tuple(sorted(told))


class IsSheet(unittest.TestCase):
    def test_sheets(self):
        for sheet in sample_sheets(spread=9999):
            self.assertIs(asked(self, is_sheet, sheet), True)

    def test_all_sizes(self):
        for a in range(-1, 11):
            for b in range(-1, 11):
                held = 1 <= a <= 8 and 1 <= b <= 8
                self.assertIs(is_sheet(((a, b), (0,) * max(0, (a + 1) * (b + 1)))), held, (a, b))

    def test_too_few_and_too_many_numbers(self):
        for a, b in ((1, 1), (2, 3), (8, 1), (8, 8)):
            for more in (-2, -1, 0, 1, 2):
                self.assertIs(is_sheet(((a, b), (5,) * ((a + 1) * (b + 1) + more))), more == 0)
        self.assertIs(is_sheet(((1, 1), ())), False)
        # As many numbers as there are squares.
        self.assertIs(is_sheet(((4, 4), (5,) * 16)), False)

    def test_numbers_at_the_ends(self):
        for number, held in (
            (9999, True), (10000, False), (-9999, True), (-10000, False), (10 ** 39, False), (0, True),
            (True, False), (False, False), (None, False), ("0", False), ((0,), False), ([0], False),
        ):
            for at in range(4):
                numbers = (1,) * at + (number,) + (1,) * (3 - at)
                self.assertIs(is_sheet(((1, 1), numbers)), held, numbers)

    def test_lists_truths_texts_and_other_sizes(self):
        numbers = (1,) * 4
        for thing in (
            [(1, 1), numbers], ([1, 1], numbers), ((1, 1), list(numbers)), ((True, 1), numbers), ((1, True), numbers),
            ((1, 1, 1), numbers), ((1, 1, 1), (1,) * 8), ((1,), numbers), ((1,), (1, 1)), ((), ()), ((), (1,)),
            ((1, 1), numbers, ()), ((1, 1),), ("11", numbers), ((1, 1), "1111"), ("ab", "abcd"), (None, numbers),
            ((1, 1), None), ((1, None), numbers), (("1", "1"), numbers), (1, numbers), ((1, 1), 4), ((0, 3), numbers),
            ((10 ** 39, 1), numbers), ((-2, -5), numbers), (((1, 1), ()), numbers), None, True, "", 0, (),
        ):
            self.assertIs(asked(self, is_sheet, thing), False, thing)

    def test_things_of_any_kind(self):
        for thing in odd_things():
            self.assertIs(asked(self, is_sheet, thing), False)

    def test_a_part_changed(self):
        for sheet in list(sample_sheets())[:5]:
            for thing in variants(sheet):
                self.assertIs(is_sheet(thing), sheet_by_words(thing), thing)


class Worths(unittest.TestCase):
    def test_the_words_agree_with_a_square(self):
        told = sheet_worths_by_words(((1, 2), (1, 2, 3, 5, 8, 13)))
        self.assertEqual(told, {
            (0, 0): 8, (0, 4): 16, (0, 8): 24, (4, 0): 40, (4, 4): 64, (4, 8): 104, (2, 2): 2 * 16, (2, 6): 2 * 26,
        })


class Steps(unittest.TestCase):
    def test_a_corner(self):
        # The high corner is at the left hand of who goes from its right side over the middle's tie to its upper side.
        a, b, c, d, m = (0, 0), (4, 0), (4, 4), (0, 4), (2, 2)
        self.assertEqual(steps(((1, 1), (1, 0, 0, 0)), 1), (((a, m), (a, d)), ((a, b), (a, m))))
        self.assertEqual(steps(((1, 1), (0, 0, 0, 1)), 1), (((c, d), (c, m)), ((c, m), (c, b))))

    def test_a_low_corner(self):
        a, b, d, m = (0, 0), (4, 0), (0, 4), (2, 2)
        self.assertEqual(steps(((1, 1), (-1, 9, 9, 9)), 1), tuple(sorted([((d, a), (m, a)), ((m, a), (b, a))])))

    def test_half_a_square(self):
        # The lower side is high, and the middle, which is worth as much as the level, too; one goes to the left.
        a, b, c, d, m = (0, 0), (4, 0), (4, 4), (0, 4), (2, 2)
        wanted = tuple(sorted([((b, c), (m, c)), ((m, c), (m, d)), ((m, d), (a, d))]))
        self.assertEqual(steps(((1, 1), (2, 0, 2, 0)), 1), wanted)

    def test_a_middle_alone(self):
        # Two corners across are high, so much that the middle is; it leads from the one to the other.
        numbers = (9, 0, 0, 9)
        self.assertEqual(len(steps(((1, 1), numbers), 4)), 4)
        self.assertEqual(steps(((1, 1), numbers), 4), steps_by_words(((1, 1), numbers), 4))
        self.assertEqual(len(steps(((1, 1), numbers), 5)), 4)
        self.assertNotEqual(steps(((1, 1), numbers), 4), steps(((1, 1), numbers), 5))

    def test_none_where_all_are_of_one_kind(self):
        for sheet in sample_sheets():
            for level in (-9999, -3, 4, 9999):
                self.assertEqual(asked(self, steps, sheet, level), ())
        for a, b in ((1, 1), (8, 8)):
            for level in (-1, 0, 1):
                self.assertEqual(steps(((a, b), (0,) * ((a + 1) * (b + 1))), level), ())

    def test_points_at_the_level(self):
        # All low but for one corner at the level: round it a step in each of its triangles.
        numbers = tuple(4 if at == 4 else -1 for at in range(9))
        told = steps(((2, 2), numbers), 4)
        self.assertEqual(len(told), 8)
        self.assertEqual({knot[0] for step in told for knot in step}, {(4, 4)})
        self.assertEqual(steps(((2, 2), numbers), 5), ())

    def test_by_words(self):
        seen = 0
        for spread in (1, 3, 9999):
            for sheet in sample_sheets(spread=spread):
                for level in (-3000, -2, -1, 0, 1, 2, 700):
                    told = asked(self, steps, sheet, level)
                    assert_rising(self, told)
                    self.assertEqual(told, steps_by_words(sheet, level))
                    seen += len(told)
        self.assertGreater(seen, 1000)

    def test_one_for_each_triangle(self):
        for sheet in sample_sheets():
            for level in (-1, 0, 1):
                kinds = sheet_kinds_by_words(sheet, level)
                told = steps(sheet, level)
                left = list(told)
                for triangle in sheet_triangles_by_words(sheet[0]):
                    own = [step for step in told if all(set(knot) <= set(triangle) for knot in step)]
                    self.assertEqual(len(own), len({kinds[point] for point in triangle}) - 1)
                    for step in own:
                        left.remove(step)
                        for knot in step:
                            self.assertEqual([kinds[point] for point in knot], [True, False])
                        for point in triangle:
                            self.assertEqual(hand(step, point) > 0, kinds[point])
                self.assertEqual(left, [])

    def test_another_level(self):
        sheet = ((2, 1), (0, 1, 2, 3, 4, 5))
        told = [steps(sheet, level) for level in range(-1, 8)]
        self.assertEqual(told, [steps_by_words(sheet, level) for level in range(-1, 8)])
        self.assertEqual([len(row) > 0 for row in told], [False] * 2 + [True] * 5 + [False] * 2)
        self.assertEqual(len(set(told[2:7])), 5)

    def test_eight_squares(self):
        slope = tuple(at for at in range(9) for _ in range(9))
        for level in range(1, 9):
            told = steps(((8, 8), slope), level)
            self.assertEqual(told, steps_by_words(((8, 8), slope), level))
            self.assertEqual(len(told), 8 * 3)
        self.assertEqual(steps(((8, 8), slope), 0), ())
        self.assertEqual(steps(((8, 8), slope), 9), ())


if __name__ == "__main__":
    unittest.main()
