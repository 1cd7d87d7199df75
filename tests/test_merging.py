"""Points 60 to 64: merging two pieces, and folding a shelf."""

import unittest

from helping import Draw, Refusing, W, days_by_chance, lying_on, shelf_by_chance, shelf_with, told_of

from keepsakes.days import Days
from keepsakes.errors import BadPiece, NoMerge
from keepsakes.least import legs_of, prices, rate
from keepsakes.merging import folded, merged
from keepsakes.pieces import Gain, Whole, gain_of, whole_of
from keepsakes.rules import LastFew, Sealed
from keepsakes.shelves import Shelf
from keepsakes.tidy import tidied
from keepsakes.ways import reached


def made_of(days, start, day):
    return whole_of(days, day) if start == -1 else gain_of(days, start, day)


class Merged(Refusing):
    def assert_merged(self, first, second, told):
        before = (told_of(first), told_of(second))
        piece = merged(first, second)
        self.assertEqual(told_of(piece), told_of(told))
        self.assertIs(type(piece), type(first))
        self.assertIs(piece.is_good(), True)
        self.assertEqual((told_of(first), told_of(second)), before)

    def test_a_whole_piece_with_a_gain(self):
        first = Whole(3, [(0, 5), (1, 6), (2, 7)])
        self.assert_merged(first, Gain(3, 9, [(1, W)]), Whole(9, [(0, 5), (1, W), (2, 7)]))
        self.assert_merged(first, Gain(3, 4, [(0, 0), (1, 1), (2, 2)]), Whole(4, [(0, 0), (1, 1), (2, 2)]))
        self.assert_merged(first, Gain(3, 4, []), Whole(4, [(0, 5), (1, 6), (2, 7)]))
        self.assert_merged(Whole(0, [(0, 1)]), Gain(0, 10 ** 9, [(0, 0)]), Whole(10 ** 9, [(0, 0)]))

    def test_a_gain_with_a_gain(self):
        first = Gain(0, 3, [(1, 11), (4, 14), (39, 1)])
        self.assert_merged(first, Gain(3, 5, [(0, 20), (4, 24), (6, 26)]),
                           Gain(0, 5, [(0, 20), (1, 11), (4, 24), (6, 26), (39, 1)]))
        self.assert_merged(first, Gain(3, 5, [(2, 22)]), Gain(0, 5, [(1, 11), (2, 22), (4, 14), (39, 1)]))
        self.assert_merged(first, Gain(3, 5, []), Gain(0, 5, [(1, 11), (4, 14), (39, 1)]))
        self.assert_merged(Gain(1, 3, []), Gain(3, 5, [(2, 22)]), Gain(1, 5, [(2, 22)]))
        self.assert_merged(Gain(1, 3, []), Gain(3, 5, []), Gain(1, 5, []))

    def test_checks_that_were_told_and_fit(self):
        first, second = Whole(1, [(0, 7)]), Gain(1, 2, [(0, 8)])
        self.assert_merged(Whole(1, [(0, 7)], first.check), Gain(1, 2, [(0, 8)], second.check), Whole(2, [(0, 8)]))

    def test_no_merge(self):
        whole, gain = Whole(3, [(0, 1)]), Gain(1, 3, [(0, 1)])
        for first in (whole, gain):
            self.assert_refused(NoMerge(3, -1), merged, first, Whole(3, [(0, 2)]))
            self.assert_refused(NoMerge(3, -1), merged, first, Whole(4, [(0, 2)]))
            self.assert_refused(NoMerge(3, 2), merged, first, Gain(2, 4, []))
            self.assert_refused(NoMerge(3, 4), merged, first, Gain(4, 5, []))
            self.assert_refused(NoMerge(3, 1), merged, first, gain)
            self.assert_refused(NoMerge(3, -1), merged, first, whole)
            self.assert_refused(NoMerge(5, 3), merged, Gain(3, 5, []), Gain(3, 5, []))
        self.assert_refused(NoMerge(0, -1), merged, Whole(0, [(0, 1)]), Whole(1, [(0, 1)]))

    def test_no_merge_ahead_of_a_bad_piece(self):
        bad, worse = Whole(3, [(0, 1)], 0), Gain(2, 9, [(0, 1)], 0)
        self.assert_refused(NoMerge(3, 2), merged, bad, worse)
        self.assert_refused(NoMerge(3, 2), merged, bad, Gain(2, 4, []))
        self.assert_refused(NoMerge(3, 2), merged, Gain(1, 3, []), worse)
        self.assert_refused(NoMerge(3, -1), merged, Gain(1, 3, []), bad)

    def test_a_bad_piece(self):
        good, further = Whole(3, [(0, 1)]), Gain(3, 9, [(0, 1)])
        for bits in (1, W, 2 ** 63):
            self.assert_refused(BadPiece(3), merged, good.harmed(0, bits), further)
            self.assert_refused(BadPiece(9), merged, good, further.harmed(0, bits))
            self.assert_refused(BadPiece(3), merged, good.harmed(0, bits), further.harmed(0, bits))
        self.assert_refused(BadPiece(3), merged, Gain(2, 3, [], 0), Gain(3, 4, []))
        self.assert_refused(BadPiece(4), merged, Gain(2, 3, []), Gain(3, 4, [], 0))

    def test_against_pieces_made_at_once(self):
        draw = Draw(61)
        for unused in range(40):
            days = days_by_chance(draw, draw.randrange(1, 7), 7)
            for start in range(-1, days.last):
                for between in range(max(start, -1) + 1, days.last + 1):
                    for day in range(between + 1, days.last + 1):
                        self.assert_merged(made_of(days, start, between), gain_of(days, between, day),
                                           made_of(days, start, day))

    def test_laid_on_a_table(self):
        draw = Draw(60)
        for unused in range(300):
            rows = [[(place, draw.randrange(W)) for place in range(6) if draw.randrange(2)] for gains in range(2)]
            whole = [(place, draw.randrange(W)) for place in range(6)]
            second = Gain(4, 9, rows[1])
            for first in (Gain(2, 4, rows[0]), Whole(4, whole)):
                table = [draw.randrange(W) for place in range(6)]
                self.assertEqual(merged(first, second).laid(table), second.laid(first.laid(table)))

    def test_three_either_way(self):
        draw = Draw(62)
        for unused in range(200):
            rows = [[(place, draw.randrange(W)) for place in range(5) if draw.randrange(2)] for gains in range(3)]
            second, third = Gain(4, 9, rows[1]), Gain(9, 11, rows[2])
            for first in (Gain(2, 4, rows[0]), Whole(4, [(place, place) for place in range(5)])):
                self.assertEqual(told_of(merged(merged(first, second), third)),
                                 told_of(merged(first, merged(second, third))))


def is_ready_by_words(shelf, wanted, day):
    pieces = [shelf.piece(number) for number in shelf.numbers()]
    leading = [piece for piece in pieces if piece.day == day]
    starting = [piece for piece in pieces if piece.start() == day]
    return (day not in wanted and len(leading) == 1 and len(starting) == 1
            and leading[0].is_good() and starting[0].is_good())


def folded_by_words(shelf, wanted, most):
    """Point 62 word by word: look again for the least day that is ready, until there is none."""
    left, folds = shelf.copied(), []
    while True:
        ready = [day for day in range(most + 1) if is_ready_by_words(left, wanted, day)]
        if not ready:
            return (left, folds)
        one = [number for number in left.numbers() if left.piece(number).day == ready[0]][0]
        other = [number for number in left.numbers() if left.piece(number).start() == ready[0]][0]
        new = left.put(merged(left.piece(one), left.piece(other)))
        left.drop(one)
        left.drop(other)
        folds.append((one, other, new))


def row_of_pieces():
    days = Days(2)
    for day in range(1, 7):
        days.passes([(day % 2, 10 + day)])
    shelf = Shelf()
    shelf.put(whole_of(days, 1))
    for day in range(2, 7):
        shelf.put(gain_of(days, day - 1, day))
    return (days, shelf)


class Folded(unittest.TestCase):
    def assert_folded(self, shelf, wanted, lying, folds):
        before, handed = lying_on(shelf), list(wanted)
        told = folded(shelf, handed)
        self.assertIs(type(told), tuple)
        self.assertEqual([type(part) for part in told], [Shelf, list])
        self.assertEqual(told[1], folds)
        self.assertTrue(all(type(fold) is tuple for fold in told[1]))
        self.assertEqual(lying_on(told[0]), (before[0] + len(folds), lying))
        self.assertEqual((lying_on(shelf), handed), (before, wanted))

    def test_a_row_of_pieces(self):
        days, shelf = row_of_pieces()
        self.assert_folded(shelf, [6], [(10, told_of(whole_of(days, 6)))],
                           [(0, 1, 6), (6, 2, 7), (7, 3, 8), (8, 4, 9), (9, 5, 10)])
        self.assert_folded(shelf, [], [(10, told_of(whole_of(days, 6)))],
                           [(0, 1, 6), (6, 2, 7), (7, 3, 8), (8, 4, 9), (9, 5, 10)])

    def test_wanted_days_stay(self):
        days, shelf = row_of_pieces()
        for wanted in ([1, 4], [4, 1], [4, 1, 1, 4, 9], [1, 4, 6]):
            lying = [(0, told_of(whole_of(days, 1))), (7, told_of(gain_of(days, 1, 4))),
                     (8, told_of(gain_of(days, 4, 6)))]
            self.assert_folded(shelf, wanted, lying, [(1, 2, 6), (6, 3, 7), (4, 5, 8)])
        self.assert_folded(shelf, [1, 2, 3, 4, 5], lying_on(shelf)[1], [])
        self.assert_folded(shelf, [5, 4, 3, 2, 1, 6, 0], lying_on(shelf)[1], [])

    def test_days_to_which_no_piece_leads(self):
        days, shelf = row_of_pieces()
        self.assert_folded(shelf, [0, 7, 10 ** 9], [(10, told_of(whole_of(days, 6)))],
                           [(0, 1, 6), (6, 2, 7), (7, 3, 8), (8, 4, 9), (9, 5, 10)])

    def test_the_first_day_and_the_last_one_are_not_ready(self):
        self.assert_folded(shelf_with({3: Gain(4, 5, []), 7: Gain(6, 8, [])}), [],
                           [(3, told_of(Gain(4, 5, []))), (7, told_of(Gain(6, 8, [])))], [])
        self.assert_folded(shelf_with({3: Whole(4, [(0, 1)])}), [], [(3, told_of(Whole(4, [(0, 1)])))], [])
        self.assert_folded(Shelf(), [1, 2], [], [])

    def test_pieces_that_hang_on_nothing_are_folded_too(self):
        shelf = shelf_with({3: Gain(4, 5, [(0, 1)]), 9: Gain(2, 4, [(1, 1)])})
        self.assert_folded(shelf, [], [(10, told_of(Gain(2, 5, [(0, 1), (1, 1)])))], [(9, 3, 10)])

    def test_several_pieces(self):
        # Two lead to day 4, and two start at day 6.
        some = {0: Whole(2, [(0, 0), (1, 0)]), 1: Gain(2, 4, []), 2: Gain(3, 4, []), 3: Gain(4, 6, []),
                4: Gain(6, 7, []), 5: Gain(6, 8, [])}
        shelf = shelf_with(some)
        self.assert_folded(shelf, [], [(2, told_of(some[2])), (3, told_of(some[3])), (4, told_of(some[4])),
                                       (5, told_of(some[5])), (6, told_of(Whole(4, [(0, 0), (1, 0)])))], [(0, 1, 6)])

    def test_a_bad_one_that_is_one_of_several(self):
        some = {0: Whole(2, [(0, 0)]), 1: Gain(2, 4, []), 2: Gain(2, 4, [], 0)}
        self.assert_folded(shelf_with(some), [], [(number, told_of(some[number])) for number in some], [])
        some = {0: Whole(2, [(0, 0)]), 1: Gain(1, 2, [], 0), 2: Gain(2, 4, [])}
        self.assert_folded(shelf_with(some), [], [(number, told_of(some[number])) for number in some], [])

    def test_a_bad_one_among_the_two(self):
        days, shelf = row_of_pieces()
        shelf.lay(3, shelf.piece(3).harmed(0, 1))
        self.assert_folded(shelf, [], [(3, told_of(shelf.piece(3))), (7, told_of(whole_of(days, 3))),
                                       (8, told_of(gain_of(days, 4, 6)))], [(0, 1, 6), (6, 2, 7), (4, 5, 8)])
        shelf = row_of_pieces()[1]
        shelf.lay(0, shelf.piece(0).harmed(0, 1))
        self.assert_folded(shelf, [], [(0, told_of(shelf.piece(0))), (9, told_of(gain_of(days, 1, 6)))],
                           [(1, 2, 6), (6, 3, 7), (7, 4, 8), (8, 5, 9)])

    def test_numbers_in_another_order_than_days(self):
        some = {9: Whole(1, [(0, 1)]), 4: Gain(1, 2, []), 6: Gain(2, 3, []), 2: Gain(3, 5, [])}
        shelf = shelf_with(some)
        shelf.lay(20, Whole(1, [(0, 1)]))
        shelf.drop(20)
        self.assert_folded(shelf, [2, 5], [(21, told_of(Whole(2, [(0, 1)]))), (22, told_of(Gain(2, 5, [])))],
                           [(9, 4, 21), (6, 2, 22)])

    def test_the_new_shelf_and_the_old_one_have_nothing_in_common(self):
        for wanted in ([], [1, 2, 3, 4, 5]):
            shelf = row_of_pieces()[1]
            left, folds = folded(shelf, wanted)
            before = lying_on(left)
            shelf.drop(5)
            shelf.put(Whole(9, [(0, 1), (1, 1)]))
            self.assertEqual(lying_on(left), before)
            before = lying_on(shelf)
            left.drop(left.numbers()[0])
            left.put(Whole(8, [(0, 1), (1, 1)]))
            folds.append(7)
            self.assertEqual(lying_on(shelf), before)

    def test_a_long_row(self):
        shelf = Shelf()
        shelf.put(Whole(0, [(0, 0)]))
        for day in range(1, 300):
            shelf.put(Gain(day - 1, day, [(0, day)]))
        left, folds = folded(shelf, [299])
        self.assertEqual(lying_on(left), (599, [(598, told_of(Whole(299, [(0, 299)])))]))
        self.assertEqual(folds, [(0 if at == 0 else 299 + at, at + 1, 300 + at) for at in range(299)])

    def test_against_the_words_on_shelves_drawn(self):
        draw = Draw(63)
        in_all = 0
        for at in range(1000):
            days = days_by_chance(draw, 3, 8) if at % 2 else None
            shelf = shelf_by_chance(draw, days)
            wanted = [draw.randrange(10) for unused in range(draw.randrange(4))]
            before = lying_on(shelf)
            left, folds = folded(shelf, wanted)
            told, same = folded_by_words(shelf, wanted, 9)
            self.assertEqual((lying_on(left), folds), (lying_on(told), same))
            self.assertEqual(lying_on(shelf), before)
            self.assert_laws(shelf, wanted, left, folds, days)
            in_all += len(folds)
        self.assertGreater(in_all, 100)

    def assert_laws(self, shelf, wanted, left, folds, days):
        self.assertFalse([day for day in range(10) if is_ready_by_words(left, wanted, day)])
        self.assertEqual(len(left.numbers()), len(shelf.numbers()) - len(folds))
        for seek, each in ((0, 0), (1, 0), (0, 1), (3, 2)):
            old, new = prices(legs_of(shelf, rate(seek, each))), prices(legs_of(left, rate(seek, each)))
            for day in wanted:
                self.assertEqual(day in old, day in new)
                self.assertTrue(day not in old or new[day] <= old[day])
        if days:
            for number in left.numbers():
                piece = left.piece(number)
                if piece.is_good():
                    self.assertEqual(told_of(piece), told_of(made_of(days, piece.start(), piece.day)))


class Few(unittest.TestCase):
    def test_at_most_so_many_are_left(self):
        draw = Draw(64)
        reached_bound = 0
        for unused in range(300):
            days = days_by_chance(draw, 3, 16)
            shelf = Shelf()
            for day in range(days.last + 1):
                for unused_too in range(draw.randrange(3)):
                    bases = [base for base in reached(shelf) if base < day]
                    base = draw.choice(bases) if bases and draw.randrange(6) else -1
                    shelf.put(made_of(days, base, day))
            for rule in (LastFew(0), LastFew(draw.randrange(1, 6)), Sealed(draw.sample(range(17), 5))):
                left, wanted, thrown = tidied(shelf, rule, rate(draw.randrange(2), 1))
                left, folds = folded(left, wanted)
                most = 2 * len(wanted) - 1 if wanted else 0
                self.assertLessEqual(len(left.numbers()), most)
                self.assertEqual([day for day in wanted if day not in reached(left)], [])
                reached_bound += len(left.numbers()) == most and most > 1
        self.assertGreater(reached_bound, 5)


if __name__ == "__main__":
    unittest.main()
