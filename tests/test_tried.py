"""[2], [29], [30]: deeds that are undone, rows of deeds that are tried, and the log."""

import random
import unittest

from levelskins.errors import Busy, Doubled, NoPlace, NoPoint, NothingBack, Outside, SkinError
from levelskins.grids import cells, corners
from levelskins.keepers import Keeper
from levelskins.words import show
from tests.rows import assert_stands, assert_told, behind, done, made_anew, some_deed, stands
from tests.samples import asked, block_of, sample_blocks

CELL = ((1, 1, 1), ())
FLAT = (CELL, (0,) * 8)
ROW = ((3, 1, 1), ())
CUT = ("cut", (0, 0, 0), [1] * 19)
DEEDS = [("renumber", (0, 0, 0), 3), ("relevel", 2), CUT, ("renumber", (2, 2, 2), 9), ("heal", (0, 0, 0))]
BAD = (
    (("renumber", (1, 1, 1), 3), NoPoint), (("renumber", (0, 0, 0), 10000), Outside), (("relevel", -10000), Outside),
    (("cut", (1, 0, 0), [0] * 19), NoPlace), (("cut", (0, 0, 0), [0]), Outside), (("heal", (0, 0, 0)), Doubled),
    (("heal", (0, 9, 0)), NoPlace),
)


class Stop(Exception):
    """Nothing of the program's own."""


class Cease(BaseException):
    """Not even an Exception."""


def backs(keeper):
    """How many deeds can be undone; they are."""
    many = 0
    while True:
        try:
            keeper.back()
        except NothingBack:
            return many
        many += 1


class Back(unittest.TestCase):
    def test_rows_of_deeds(self):
        picked = random.Random(11)
        for block in sample_blocks(corners):
            keeper = Keeper(block, 0)
            pasts = []
            for _ in range(12):
                now = (keeper.its_block(), keeper.its_level())
                made = keeper.made()
                if pasts and picked.random() < 0.4:
                    past = pasts.pop()
                    told = keeper.back()
                    assert_told(self, told, now, past)
                    assert_stands(self, keeper, *past)
                else:
                    pasts.append(now)
                    told = done(keeper, some_deed(picked, keeper.its_block()))
                self.assertEqual(keeper.made(), made + len(told))
            self.assertEqual(backs(keeper), len(pasts))
            assert_stands(self, keeper, block, 0)

    def test_none_stands(self):
        keeper = Keeper(FLAT, 0)
        ahead = stands(keeper)
        for _ in range(3):
            with self.assertRaises(NothingBack) as caught:
                keeper.back()
            self.assertIsInstance(caught.exception, SkinError)
            self.assertEqual((stands(keeper), keeper.made(), keeper.log()), (ahead, 1, ()))
        keeper.relevel(1)
        keeper.back()
        self.assertRaises(NothingBack, keeper.back)
        self.assertEqual(stands(keeper), ahead)

    def test_thirty_at_the_most(self):
        for many in (29, 30, 31, 45):
            keeper = Keeper(FLAT, 0)
            for level in range(1, many + 1):
                keeper.relevel(level)
            self.assertEqual(backs(keeper), min(many, 30))
            self.assertEqual(keeper.its_level(), max(0, many - 30))

    def test_thirty_that_change_nothing(self):
        keeper = Keeper(FLAT, 5)
        keeper.relevel(6)
        for _ in range(29):
            self.assertEqual(keeper.renumber((0, 0, 0), 0), ())
        for _ in range(29):
            self.assertEqual(keeper.back(), ())
            self.assertEqual(keeper.its_level(), 6)
        keeper.back()
        self.assertEqual(keeper.its_level(), 5)
        keeper = Keeper(FLAT, 5)
        keeper.relevel(6)
        for _ in range(30):
            keeper.relevel(6)
        self.assertEqual(backs(keeper), 30)
        self.assertEqual(keeper.its_level(), 6)

    def test_undone_ones_make_room(self):
        keeper = Keeper(FLAT, 0)
        for level in range(1, 31):
            keeper.relevel(level)
        for _ in range(10):
            keeper.back()
        for level in range(50, 55):
            keeper.relevel(level)
        self.assertEqual(backs(keeper), 25)
        self.assertEqual(keeper.its_level(), 0)

    def test_back_is_no_deed(self):
        keeper = Keeper(FLAT, 0)
        keeper.relevel(1)
        keeper.relevel(2)
        keeper.back()
        keeper.back()
        self.assertEqual(keeper.its_level(), 0)
        self.assertRaises(NothingBack, keeper.back)

    def test_refused_deeds_do_not_stand(self):
        for deed, error in BAD:
            keeper = Keeper(FLAT, 0)
            keeper.relevel(4)
            self.assertRaises(error, done, keeper, deed)
            self.assertEqual(backs(keeper), 1)
            self.assertEqual(keeper.its_level(), 0)
            # Nor does one push out the first of thirty.
            for level in range(1, 31):
                keeper.relevel(level)
            self.assertRaises(error, done, keeper, deed)
            self.assertRaises(error, keeper.tried, [("relevel", 7), deed])
            self.assertEqual(backs(keeper), 30)
            self.assertEqual(keeper.its_level(), 0)

    def test_numbers_come_back_with_a_cut(self):
        keeper = Keeper(FLAT, 0)
        keeper.cut((0, 0, 0), list(range(19)))
        block = keeper.its_block()
        keeper.heal((0, 0, 0))
        self.assertEqual(keeper.back(), cells(block[0]))
        self.assertEqual(keeper.its_block(), block)


class Tried(unittest.TestCase):
    def test_each_behind_the_one_ahead(self):
        for kind in (list, tuple):
            keeper = Keeper(FLAT, 1)
            rows = [(FLAT, 1)]
            for deed in DEEDS:
                rows.append(behind(*rows[-1], deed))
            handed = kind(DEEDS)
            told = keeper.tried(handed)
            self.assertEqual(handed, kind(DEEDS))
            self.assertIs(type(told), tuple)
            self.assertEqual(told, tuple(made_anew(one, other) for one, other in zip(rows, rows[1:])))
            assert_stands(self, keeper, *rows[-1])
            self.assertEqual(keeper.made(), 1 + sum(len(row) for row in told))

    def test_as_one_by_one(self):
        picked = random.Random(12)
        for block in sample_blocks(corners):
            alone, keeper = Keeper(block, 0), Keeper(block, 0)
            deeds, wanted = [], []
            for _ in range(5):
                deeds.append(some_deed(picked, alone.its_block()))
                wanted.append(done(alone, deeds[-1]))
            self.assertEqual(keeper.tried(tuple(deeds)), tuple(wanted))
            self.assertEqual(stands(keeper), stands(alone))
            self.assertEqual(keeper.made(), alone.made())
            self.assertEqual((backs(keeper), backs(alone)), (1, 5))

    def test_one_deed_to_back(self):
        picked = random.Random(13)
        for block in list(sample_blocks(corners))[::2]:
            keeper = Keeper(block, 0)
            keeper.relevel(1)
            deeds = []
            other = Keeper(block, 1)
            for _ in range(4):
                deeds.append(some_deed(picked, other.its_block()))
                done(other, deeds[-1])
            keeper.tried(deeds)
            now, made = (keeper.its_block(), keeper.its_level()), keeper.made()
            told = keeper.back()
            assert_told(self, told, now, (block, 1))
            self.assertEqual(keeper.made(), made + len(told))
            assert_stands(self, keeper, block, 1)
            keeper.back()
            assert_stands(self, keeper, block, 0)
            self.assertRaises(NothingBack, keeper.back)

    def test_there_and_back_again(self):
        # Both deeds make cells, and yet nothing is to be made by back.
        keeper = Keeper(FLAT, 0)
        told = keeper.tried([("relevel", 1), ("relevel", 0)])
        self.assertEqual(told, ((((0, 0, 0), 4),),) * 2)
        self.assertEqual(keeper.made(), 3)
        self.assertEqual(keeper.back(), ())
        self.assertEqual(keeper.made(), 3)

    def test_of_none(self):
        for none in ([], ()):
            keeper = Keeper(FLAT, 0)
            ahead = stands(keeper)
            self.assertEqual(keeper.tried(none), ())
            self.assertEqual(keeper.tried(none, tell=self.fail), ())
            self.assertEqual((stands(keeper), keeper.made()), (ahead, 1))
            self.assertEqual(keeper.log(), (("begin", 0), ("end", 0)) * 2)
            self.assertEqual(keeper.back(), ())
            self.assertEqual(keeper.back(), ())
            self.assertRaises(NothingBack, keeper.back)

    def test_thirty_rows(self):
        keeper = Keeper(FLAT, 0)
        for level in range(1, 32):
            keeper.tried([("relevel", -level), ("relevel", level)])
        self.assertEqual(backs(keeper), 30)
        self.assertEqual(keeper.its_level(), 1)
        keeper = Keeper(FLAT, 0)
        keeper.tried([("relevel", level) for level in range(1, 60)])
        self.assertEqual(backs(keeper), 1)
        self.assertEqual(keeper.its_level(), 0)

    def test_tell_by_its_name_only(self):
        keeper = Keeper(FLAT, 0)
        with self.assertRaises(TypeError):
            keeper.tried([], None)
        self.assertEqual(keeper.tried([("relevel", 1)], tell=None), ((((0, 0, 0), 4),),))


class RefusedInTheMidst(unittest.TestCase):
    def test_all_is_as_ahead(self):
        for bad, error in BAD:
            for ahead_of_it in ([], [("relevel", 3)], [("renumber", (0, 0, 0), 5), ("relevel", 3)]):
                keeper = Keeper(FLAT, 0)
                keeper.renumber((4, 4, 4), 1)
                ahead, made = stands(keeper), keeper.made()
                fresh = Keeper(keeper.its_block(), 0)
                wanted = sum(len(done(fresh, deed)) for deed in ahead_of_it)
                with self.assertRaises(error) as caught:
                    keeper.tried(ahead_of_it + [bad, ("relevel", 7)])
                self.assertIs(type(caught.exception), error)
                self.assertEqual(stands(keeper), ahead)
                self.assertEqual(keeper.made(), made + wanted)
                self.assertEqual(keeper.log(), (("begin", len(ahead_of_it) + 2), ("end", 0)))
                self.assertEqual(backs(keeper), 1)
                assert_stands(self, keeper, FLAT, 0)

    def test_the_field_goes_through(self):
        keeper = Keeper(FLAT, 0)
        with self.assertRaises(Outside) as caught:
            keeper.tried([("relevel", 1), ("renumber", (0, 0, 0), 12345)])
        self.assertEqual(caught.exception.what, 12345)
        with self.assertRaises(Doubled) as caught:
            keeper.tried([CUT, ("cut", (0, 0, 0), [])])
        self.assertEqual(caught.exception.place, (0, 0, 0))

    def test_a_grid_is_put_back(self):
        block = block_of(((2, 1, 1), ((1, 0, 0),)), corners, lambda corner: sum(corner))
        keeper = Keeper(block, 5)
        ahead, made = stands(keeper), keeper.made()
        with self.assertRaises(NoPoint):
            keeper.tried([("heal", (1, 0, 0)), ("cut", (0, 0, 0), [9] * 19), ("renumber", (6, 2, 2), 1)])
        self.assertEqual(stands(keeper), ahead)
        # Healed: two cells. Cut: eight and the one beside them.
        self.assertEqual(keeper.made(), made + 2 + 9)
        # Cells of what was put back are not made, and what follows is told against it.
        now = (block, 5)
        assert_told(self, keeper.relevel(7), now, (block, 7))

    def test_the_last_one(self):
        keeper = Keeper(FLAT, 0)
        with self.assertRaises(Outside):
            keeper.tried([("relevel", 1), ("relevel", 2), ("relevel", 99999)])
        self.assertEqual(keeper.its_level(), 0)
        self.assertEqual(keeper.log(), (("begin", 3), ("end", 0)))


class Tell(unittest.TestCase):
    def test_called_behind_each(self):
        keeper = Keeper(FLAT, 1)
        heard = []

        def tell(told):
            self.assertIs(told, keeper)
            heard.append((stands(told), told.made(), told.log()))

        told = keeper.tried(DEEDS, tell=tell)
        other = Keeper(FLAT, 1)
        self.assertEqual(len(heard), len(DEEDS))
        for deed, (now, made, log) in zip(DEEDS, heard):
            done(other, deed)
            self.assertEqual(now, stands(other))
            self.assertEqual(made, other.made())
            self.assertEqual(log, (("begin", len(DEEDS)),))
        self.assertEqual(len(told), len(DEEDS))

    def test_what_it_raises_goes_through(self):
        for raised in (Stop("x"), Cease("x"), KeyError(1), NoPoint(5), Busy("own"), StopIteration(), KeyboardInterrupt()):
            for at in range(len(DEEDS)):
                keeper = Keeper(FLAT, 1)
                keeper.relevel(0)
                ahead, made = stands(keeper), keeper.made()
                other = Keeper(FLAT, 0)
                wanted = [len(done(other, deed)) for deed in DEEDS[:at + 1]]
                heard = []

                def tell(told):
                    heard.append(told)
                    if len(heard) > at:
                        raise raised

                with self.assertRaises(type(raised)) as caught:
                    keeper.tried(DEEDS, tell=tell)
                self.assertIs(caught.exception, raised)
                self.assertEqual(len(heard), at + 1)
                self.assertEqual(stands(keeper), ahead)
                self.assertEqual(keeper.made(), made + sum(wanted))
                self.assertEqual(keeper.log(), (("begin", len(DEEDS)), ("end", 0)))
                self.assertEqual(backs(keeper), 1)
                assert_stands(self, keeper, FLAT, 1)

    def test_it_changes_what_was_handed_in(self):
        for change in (list.clear, list.pop, lambda deeds: deeds.append(("relevel", 99999)), list.reverse):
            keeper, other = Keeper(FLAT, 1), Keeper(FLAT, 1)
            deeds = list(DEEDS)
            told = keeper.tried(deeds, tell=lambda asked: change(deeds) if deeds else None)
            self.assertEqual(told, other.tried(DEEDS))
            self.assertEqual(stands(keeper), stands(other))
            self.assertEqual(keeper.log(), (("begin", 5), ("end", 5)))

    def test_refused_deeds_are_not_told(self):
        keeper = Keeper(FLAT, 1)
        heard = []
        with self.assertRaises(NoPoint):
            keeper.tried([("relevel", 2), ("renumber", (1, 0, 0), 0)], tell=heard.append)
        self.assertEqual(heard, [keeper])
        self.assertEqual(len(heard), 1)

    def test_a_tell_that_is_falsy(self):
        class Quiet:
            def __init__(self):
                self.many = 0

            def __bool__(self):
                return False

            def __call__(self, keeper):
                self.many += 1

        quiet = Quiet()
        Keeper(FLAT, 1).tried(DEEDS, tell=quiet)
        self.assertEqual(quiet.many, len(DEEDS))


class WithinTell(unittest.TestCase):
    ASKS = (
        ("renumber", (0, 0, 0), 1), ("renumber", (9, 9, 9), 99999), ("relevel", 1), ("relevel", 99999),
        ("cut", (0, 0, 0), []), ("cut", (5, 5, 5), []), ("heal", (0, 0, 0)), ("heal", (5, 5, 5)), ("back",),
        ("tried", []), ("tried", [("relevel", 1)]), ("tried", [("relevel", 99999)]),
    )

    def test_busy_ahead_of_all_else(self):
        for stand in (0, 2):
            keeper = Keeper(FLAT, 1)
            for _ in range(stand):
                keeper.relevel(1)
            heard = []

            def tell(told):
                for deed in self.ASKS:
                    ahead = (stands(told), told.made(), told.log())
                    with self.assertRaises(Busy) as caught:
                        done(told, deed)
                    self.assertIsInstance(caught.exception, SkinError)
                    self.assertEqual((stands(told), told.made(), told.log()), ahead)
                    heard.append(deed)
                with self.assertRaises(Busy):
                    told.tried([("relevel", 1)], tell=self.fail)

            keeper.tried(DEEDS, tell=tell)
            self.assertEqual(len(heard), len(DEEDS) * len(self.ASKS))
            other = Keeper(FLAT, 1)
            other.tried(DEEDS)
            self.assertEqual(stands(keeper), stands(other))
            self.assertEqual(keeper.made(), other.made())
            # A tried that is refused with Busy is not in the log.
            self.assertEqual(keeper.log(), (("begin", 5), ("end", 5)))
            self.assertEqual(backs(keeper), stand + 1)

    def test_busy_goes_through(self):
        for deed in self.ASKS:
            keeper = Keeper(FLAT, 1)
            with self.assertRaises(Busy):
                keeper.tried([("relevel", 5)], tell=lambda told: done(told, deed))
            assert_stands(self, keeper, FLAT, 1)
            self.assertEqual(keeper.log(), (("begin", 1), ("end", 0)))
            self.assertRaises(NothingBack, keeper.back)

    def test_all_else_may_be_asked(self):
        keeper = Keeper(FLAT, 1)

        def tell(told):
            self.assertEqual(told.its_block(), keeper.its_block())
            self.assertEqual(str(told), f"{show(told.its_block())}level {told.its_level()}\n")
            self.assertEqual(len(told), len(told.its_skin()))
            self.assertTrue(told == Keeper(told.its_block(), told.its_level()))
            self.assertEqual(told.log()[-1][0], "begin")
            for cell in cells(told.its_block()[0]):
                told.its_cycles(cell)
            assert_stands(self, told, told.its_block(), told.its_level())

        keeper.tried(DEEDS, tell=tell)

    def test_another_keeper_is_not_busy(self):
        keeper, other = Keeper(FLAT, 1), Keeper(FLAT, 1)

        def deeper(told):
            self.assertRaises(Busy, keeper.relevel, 3)
            self.assertRaises(Busy, other.relevel, 3)

        def tell(told):
            other.relevel(told.its_level())
            other.renumber((0, 0, 0), 4)
            other.back()
            other.tried([("relevel", 7), ("relevel", 8)], tell=deeper)
            self.assertRaises(Busy, told.relevel, 3)

        keeper.tried([("relevel", 2), ("relevel", 3)], tell=tell)
        self.assertEqual((keeper.its_level(), other.its_level()), (3, 8))
        self.assertEqual(backs(other), 4)

    def test_not_busy_behind_it(self):
        def stop(told):
            raise Stop

        def cease(told):
            raise Cease

        keeper = Keeper(FLAT, 1)
        keeper.tried(DEEDS, tell=lambda told: None)
        keeper.relevel(5)
        self.assertRaises(Stop, keeper.tried, DEEDS, tell=stop)
        keeper.relevel(6)
        self.assertRaises(Cease, keeper.tried, DEEDS, tell=cease)
        keeper.relevel(7)
        self.assertRaises(NoPoint, keeper.tried, [("relevel", 8), BAD[0][0]], tell=lambda told: None)
        keeper.back()
        self.assertRaises(Busy, keeper.tried, DEEDS, tell=lambda told: told.back())
        keeper.tried([("relevel", 9)])
        self.assertEqual(keeper.its_level(), 9)
        keeper.back()
        self.assertEqual(keeper.its_level(), 6)

    def test_not_busy_between_deeds(self):
        # Busy ends with tell: the deed behind it is done.
        keeper = Keeper(FLAT, 1)
        levels = []
        keeper.tried([("relevel", 2), ("relevel", 3)], tell=lambda told: levels.append(told.its_level()))
        self.assertEqual(levels, [2, 3])


class Log(unittest.TestCase):
    def test_at_first(self):
        self.assertEqual(Keeper(FLAT, 0).log(), ())

    def test_deeds_alone_are_not_in_it(self):
        keeper = Keeper(FLAT, 0)
        for deed in DEEDS:
            done(keeper, deed)
        keeper.back()
        self.assertEqual(keeper.log(), ())

    def test_the_last_eight(self):
        keeper = Keeper(FLAT, 0)
        wanted = []
        for many in range(9):
            deeds = [("relevel", level) for level in range(many)]
            if many % 3 == 2:
                deeds[-1] = ("relevel", 99999)
                self.assertRaises(Outside, keeper.tried, deeds)
                wanted += [("begin", many), ("end", 0)]
            else:
                keeper.tried(deeds)
                wanted += [("begin", many), ("end", many)]
            told = asked(self, keeper.log)
            self.assertIs(type(told), tuple)
            self.assertEqual(told, tuple(wanted[-8:]))
        self.assertEqual(len(keeper.log()), 8)

    def test_within_tell(self):
        # The begin pushes out the first of eight, the end the next one.
        keeper = Keeper(FLAT, 0)
        for many in range(4):
            keeper.tried([("relevel", 1)] * many)
        heard = []
        keeper.tried([("relevel", 1)] * 9, tell=lambda told: heard.append(told.log()))
        whole = [told for many in range(4) for told in (("begin", many), ("end", many))] + [("begin", 9), ("end", 9)]
        self.assertEqual(heard, [tuple(whole[1:9])] * 9)
        self.assertEqual(keeper.log(), tuple(whole[2:]))

    def test_back_leaves_it(self):
        keeper = Keeper(FLAT, 0)
        keeper.tried(DEEDS)
        keeper.back()
        self.assertEqual(keeper.log(), (("begin", 5), ("end", 5)))


class Row(unittest.TestCase):
    def test_places_in_a_row(self):
        # Only the told cells are made, in each of many deeds.
        keeper = Keeper(block_of(ROW, corners, lambda corner: 0), 1)
        told = keeper.tried([
            ("renumber", (0, 0, 0), 8), ("renumber", (12, 4, 4), 8), ("renumber", (4, 0, 0), 8), ("relevel", 1),
        ])
        first, second, third = cells(ROW)
        self.assertEqual(told, ((first,), (third,), (first, second), ()))
        self.assertEqual(keeper.made(), 3 + 4)
        self.assertEqual(keeper.back(), (first, second, third))
        self.assertEqual(keeper.made(), 3 + 4 + 3)


if __name__ == "__main__":
    unittest.main()
