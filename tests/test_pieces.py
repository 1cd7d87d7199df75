"""Points 22 to 27, and 2 and 4 where they bear on pieces."""

import random
import unittest

from helping import Refusing, W, days_by_chance, told_of

from keepsakes.checks import check_of
from keepsakes.days import Days
from keepsakes.errors import NoBase, NoDay, NoPlace
from keepsakes.pieces import Gain, Piece, Whole, gain_of, whole_of

ROWS = [(0, 17), (1, 0), (2, W)]
GAIN_ROWS = [(3, 5), (17, W), (39, 0)]


def pieces_by_chance(chance):
    rows = [(place, chance.choice((0, W, chance.randrange(W + 1)))) for place in range(chance.randrange(1, 41))]
    some = [row for row in rows if chance.randrange(2)] + [(39, 7)]
    base = chance.choice((0, 3, 10 ** 9 - 1))
    return [Whole(base, rows), Gain(base, base + 1, some if len(rows) < 40 else some[:-1])]


class Kinds(unittest.TestCase):
    def test_a_whole_piece(self):
        piece = Whole(4, ROWS)
        self.assertEqual((piece.day, piece.rows), (4, ((0, 17), (1, 0), (2, W))))
        self.assertEqual((piece.start(), piece.kind(), piece.size()), (-1, "whole", 3))
        self.assertEqual(Whole(0, [(0, 1)]).size(), 1)
        self.assertEqual(Whole(10 ** 9, [(place, 1) for place in range(40)]).size(), 40)

    def test_a_gain(self):
        piece = Gain(2, 9, GAIN_ROWS)
        self.assertEqual((piece.base, piece.day, piece.rows), (2, 9, ((3, 5), (17, W), (39, 0))))
        self.assertEqual((piece.start(), piece.kind(), piece.size()), (2, "gain", 3))
        self.assertEqual(Gain(0, 10 ** 9, [(0, 1)]).start(), 0)

    def test_a_gain_without_rows(self):
        for rows in ([], ()):
            piece = Gain(0, 1, rows)
            self.assertEqual((piece.rows, piece.size(), piece.is_good()), ((), 0, True))
            self.assertEqual(piece.check, check_of(0, 1, []))

    def test_each_is_a_piece_and_none_the_other(self):
        whole, gain = Whole(4, ROWS), Gain(2, 9, GAIN_ROWS)
        self.assertIsInstance(whole, Piece)
        self.assertIsInstance(gain, Piece)
        self.assertNotIsInstance(whole, Gain)
        self.assertNotIsInstance(gain, Whole)
        self.assertFalse(issubclass(Piece, (Whole, Gain)))
        for name in ("size", "is_good", "harmed"):
            self.assertIn(name, vars(Piece))

    def test_rows_as_a_list_and_as_a_tuple(self):
        for rows in (ROWS, tuple(ROWS)):
            for piece in (Whole(4, rows), Gain(2, 4, rows)):
                self.assertIs(type(piece.rows), tuple)
                self.assertEqual([type(row) for row in piece.rows], [tuple] * 3)
                self.assertEqual(piece.rows, tuple(ROWS))

    def test_the_askers_list_changed_afterwards(self):
        for made in (lambda rows: Whole(4, rows), lambda rows: Gain(2, 4, rows), lambda rows: Gain(2, 4, rows, 7)):
            rows = list(ROWS)
            piece = made(rows)
            self.assertEqual(rows, ROWS)
            before = (told_of(piece), piece.size(), piece.is_good(), piece.laid([1, 2, 3]))
            rows[0] = (0, 99)
            rows.append((3, 3))
            self.assertEqual((told_of(piece), piece.size(), piece.is_good(), piece.laid([1, 2, 3])), before)
            rows.clear()
            self.assertEqual((told_of(piece), piece.size(), piece.is_good(), piece.laid([1, 2, 3])), before)


class Checks(unittest.TestCase):
    def test_a_check_that_is_not_told(self):
        for piece in (Whole(4, ROWS), Whole(4, ROWS, None), Whole(4, ROWS, check=None)):
            self.assertEqual(piece.check, check_of(-1, 4, ROWS))
            self.assertIs(piece.is_good(), True)
        for piece in (Gain(2, 9, GAIN_ROWS), Gain(2, 9, GAIN_ROWS, None), Gain(2, 9, GAIN_ROWS, check=None)):
            self.assertEqual(piece.check, check_of(2, 9, GAIN_ROWS))
            self.assertIs(piece.is_good(), True)

    def test_a_check_that_is_told(self):
        for made, fits in ((lambda check: Whole(4, ROWS, check), check_of(-1, 4, ROWS)),
                           (lambda check: Gain(2, 9, GAIN_ROWS, check), check_of(2, 9, GAIN_ROWS))):
            for check in (0, W, fits, fits ^ 1, fits ^ 2 ** 63, (fits + 1) % (W + 1)):
                piece = made(check)
                self.assertEqual(piece.check, check)
                self.assertIs(piece.is_good(), check == fits)

    def test_a_check_of_0_and_of_w_that_fits(self):
        self.assertEqual(Whole(0, [(0, 0)]).check, 0)
        self.assertIs(Whole(0, [(0, 0)], 0).is_good(), True)
        self.assertIs(Whole(0, [(0, W)], W).is_good(), True)
        self.assertIs(Whole(0, [(0, W)], 0).is_good(), False)

    def test_the_check_of_the_start_and_no_other(self):
        self.assertNotEqual(Gain(0, 5, ROWS).check, Whole(5, ROWS).check)
        self.assertIs(Gain(0, 5, ROWS, Whole(5, ROWS).check).is_good(), False)
        self.assertIs(Whole(5, ROWS, Gain(0, 5, ROWS).check).is_good(), False)
        self.assertIs(Gain(0, 5, ROWS, Gain(1, 5, ROWS).check).is_good(), False)
        self.assertIs(Gain(0, 5, ROWS, Gain(0, 6, ROWS).check).is_good(), False)

    def test_whole_numbers(self):
        for piece in (Whole(4, ROWS), Gain(2, 9, GAIN_ROWS), Gain(2, 9, [])):
            for number in (piece.start(), piece.day, piece.size(), piece.check):
                self.assertIs(type(number), int)


class Laying(unittest.TestCase):
    def test_a_gain(self):
        table = [7, 8, 9, 10]
        told = Gain(0, 1, [(0, 1), (3, W)]).laid(table)
        self.assertEqual(told, [1, 8, 9, W])
        self.assertIs(type(told), list)
        self.assertEqual(table, [7, 8, 9, 10])

    def test_a_gain_without_rows_tells_a_new_list(self):
        table = [7, 8]
        told = Gain(0, 1, []).laid(table)
        self.assertEqual(told, [7, 8])
        told.append(9)
        self.assertEqual(table, [7, 8])

    def test_a_whole_piece_on_any_list(self):
        piece = Whole(3, ROWS)
        for table in ([], [1], [1, 2, 3], [5] * 40):
            before = list(table)
            told = piece.laid(table)
            self.assertIs(type(told), list)
            self.assertEqual(told, [17, 0, W])
            self.assertEqual(table, before)

    def test_what_is_told_is_the_askers_own(self):
        for piece in (Whole(3, ROWS), Gain(2, 3, ROWS)):
            before = told_of(piece)
            told = piece.laid([1, 2, 3])
            told[0] = 99
            told.append(4)
            self.assertEqual(piece.laid([1, 2, 3]), [17, 0, W])
            self.assertEqual(told_of(piece), before)

    def test_bad_pieces_are_laid_too(self):
        self.assertEqual(Whole(3, ROWS, 1).laid([]), [17, 0, W])
        self.assertEqual(Gain(2, 3, [(1, 6)], 1).laid([4, 4]), [4, 6])


class Harm(Refusing):
    def test_the_harmed_block_alone_is_changed(self):
        for piece in (Whole(4, ROWS), Gain(2, 9, GAIN_ROWS), Gain(2, 9, GAIN_ROWS, 5)):
            before = told_of(piece)
            for at in range(3):
                for bits in (0, 1, 2 ** 63, W, 6):
                    harmed = piece.harmed(at, bits)
                    rows = list(piece.rows)
                    rows[at] = (rows[at][0], rows[at][1] ^ bits)
                    self.assertIs(type(harmed), type(piece))
                    self.assertEqual(told_of(harmed), before[:3] + (tuple(rows), piece.check))
                    self.assertEqual(told_of(piece), before)

    def test_a_gain_keeps_its_base(self):
        self.assertEqual(Gain(2, 9, GAIN_ROWS).harmed(0, 1).base, 2)

    def test_written_out(self):
        self.assertEqual(Whole(4, ROWS).harmed(0, 1).rows, ((0, 16), (1, 0), (2, W)))
        self.assertEqual(Whole(4, ROWS).harmed(1, W).rows, ((0, 17), (1, W), (2, W)))
        self.assertEqual(Whole(4, ROWS).harmed(2, W).rows, ((0, 17), (1, 0), (2, 0)))
        self.assertEqual(Gain(2, 9, GAIN_ROWS).harmed(0, 4).rows, ((3, 1), (17, W), (39, 0)))

    def test_bad_just_where_bits_is_not_0(self):
        chance = random.Random(25)
        for unused in range(30):
            for piece in pieces_by_chance(chance):
                for at in (0, chance.randrange(piece.size()), piece.size() - 1):
                    for bits in (0, 1, W, 2 ** chance.randrange(64), chance.randrange(W + 1)):
                        self.assertIs(piece.harmed(at, bits).is_good(), bits == 0)
                        self.assertIs(piece.harmed(at, bits).harmed(at, bits).is_good(), True)
                        self.assertIs(piece.is_good(), True)

    def test_no_place(self):
        for piece in (Whole(4, ROWS), Gain(2, 9, GAIN_ROWS)):
            before = told_of(piece)
            for at in (-1, 3, -3, 4, 39, 17, 10 ** 30, -(10 ** 30)):
                self.assert_refused(NoPlace(at), piece.harmed, at, 1)
                self.assert_refused(NoPlace(at), piece.harmed, at, 0)
            self.assertEqual(told_of(piece), before)

    def test_no_place_of_a_gain_without_rows(self):
        for at in (0, -1, 1):
            self.assert_refused(NoPlace(at), Gain(0, 1, []).harmed, at, 1)


class OfDays(Refusing):
    def setUp(self):
        self.days = Days(3)
        self.days.passes([(2, 5), (0, 1)])
        self.days.passes([])
        self.days.passes([(0, 9), (1, 0)])
        self.days.passes([(0, 9)])

    def test_whole_pieces(self):
        self.assertEqual(told_of(whole_of(self.days, 0)), told_of(Whole(0, [(0, 0), (1, 0), (2, 0)])))
        self.assertEqual(told_of(whole_of(self.days, 3)), told_of(Whole(3, [(0, 9), (1, 0), (2, 5)])))
        self.assertIsInstance(whole_of(self.days, 4), Whole)

    def test_gains(self):
        for base, day, rows in ((0, 1, [(0, 1), (2, 5)]), (1, 2, []), (0, 2, [(0, 1), (2, 5)]),
                                (2, 3, [(0, 9), (1, 0)]), (3, 4, [(0, 9)]), (0, 4, [(0, 9), (1, 0), (2, 5)]),
                                (1, 4, [(0, 9), (1, 0)])):
            gain = gain_of(self.days, base, day)
            self.assertIsInstance(gain, Gain)
            self.assertEqual(told_of(gain), told_of(Gain(base, day, rows)))

    def test_no_day(self):
        for day in (-1, 5, 10 ** 30, -(10 ** 30)):
            self.assert_refused(NoDay(day), whole_of, self.days, day)
            self.assert_refused(NoDay(day), gain_of, self.days, day, 2)
            self.assert_refused(NoDay(day), gain_of, self.days, 2, day)
            self.assert_refused(NoDay(day), gain_of, self.days, day, 7)
            self.assert_refused(NoDay(7), gain_of, self.days, 7, day)
            self.assert_refused(NoDay(day), gain_of, self.days, day, day)

    def test_no_base(self):
        for base in range(5):
            for day in range(base + 1):
                self.assert_refused(NoBase(base, day), gain_of, self.days, base, day)

    def test_the_row_of_days_stays_as_it_was(self):
        tables = [self.days.table(day) for day in range(5)]
        whole, gain = whole_of(self.days, 3), gain_of(self.days, 0, 3)
        self.assert_refused(NoBase(3, 3), gain_of, self.days, 3, 3)
        self.assertEqual([self.days.table(day) for day in range(5)], tables)
        before = (told_of(whole), told_of(gain))
        self.days.passes([(0, 77), (1, 77), (2, 77)])
        self.assertEqual((told_of(whole), told_of(gain)), before)

    def test_all_days_are_fetched_again(self):
        chance = random.Random(26)
        for wide in (1, 2, 5, 40):
            days = days_by_chance(chance, wide, 25)
            for day in range(26):
                table = days.table(day)
                whole = whole_of(days, day)
                self.assertIs(whole.is_good(), True)
                self.assertEqual((whole.start(), whole.day, whole.size()), (-1, day, wide))
                self.assertEqual(whole.laid([]), table)
                self.assertEqual(whole.laid([3] * 7), table)
                for base in range(day):
                    gain = gain_of(days, base, day)
                    self.assertIs(gain.is_good(), True)
                    self.assertEqual((gain.start(), gain.day), (base, day))
                    self.assertEqual([place for place, block in gain.rows], days.written(base, day))
                    self.assertEqual(gain.laid(days.table(base)), table)


if __name__ == "__main__":
    unittest.main()
