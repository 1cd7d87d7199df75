"""Points 30 to 33, and 2 and 4 where they bear on a shelf."""

import random
import unittest

from helping import Refusing, lying_on, told_of

from keepsakes.errors import NoPiece
from keepsakes.pieces import Gain, Whole
from keepsakes.shelves import Shelf


def whole(day, block=1):
    return Whole(day, [(0, block)])


class Numbers(Refusing):
    def assert_lies(self, shelf, numbers, following):
        self.assertEqual(shelf.numbers(), numbers)
        self.assertEqual(shelf.following(), following)

    def test_a_new_shelf(self):
        self.assert_lies(Shelf(), [], 0)
        for number in (0, -1, 1, 10 ** 9):
            self.assert_refused(NoPiece(number), Shelf().piece, number)
            self.assert_refused(NoPiece(number), Shelf().drop, number)

    def test_put(self):
        shelf = Shelf()
        for number in range(300):
            self.assertEqual(shelf.following(), number)
            self.assertEqual(shelf.put(whole(number)), number)
        self.assert_lies(shelf, list(range(300)), 300)
        self.assertEqual([shelf.piece(number).day for number in range(300)], list(range(300)))

    def test_lay_far_ahead(self):
        shelf = Shelf()
        self.assertIsNone(shelf.lay(7, whole(1)))
        self.assert_lies(shelf, [7], 8)
        shelf.lay(3, whole(2))
        self.assert_lies(shelf, [3, 7], 8)
        self.assertEqual(shelf.put(whole(3)), 8)
        shelf.lay(10 ** 9 - 1, whole(4))
        self.assert_lies(shelf, [3, 7, 8, 10 ** 9 - 1], 10 ** 9)
        self.assertEqual(shelf.put(whole(5)), 10 ** 9)
        self.assertEqual([shelf.piece(number).day for number in shelf.numbers()], [2, 1, 3, 4, 5])

    def test_lay_by_0_and_by_the_number_that_follows(self):
        shelf = Shelf()
        shelf.lay(0, whole(1))
        self.assert_lies(shelf, [0], 1)
        shelf.lay(1, whole(2))
        self.assert_lies(shelf, [0, 1], 2)
        self.assertEqual(shelf.put(whole(3)), 2)

    def test_lay_in_the_place_of_another(self):
        shelf = Shelf()
        shelf.put(whole(1))
        shelf.put(whole(2))
        shelf.lay(0, whole(9, 4))
        self.assert_lies(shelf, [0, 1], 2)
        self.assertEqual(told_of(shelf.piece(0)), told_of(whole(9, 4)))
        self.assertEqual(told_of(shelf.piece(1)), told_of(whole(2)))

    def test_drop(self):
        shelf = Shelf()
        pieces = [whole(1), Gain(1, 2, [(0, 5)], 3), whole(3)]
        for piece in pieces:
            shelf.put(piece)
        self.assertEqual(told_of(shelf.drop(1)), told_of(pieces[1]))
        self.assert_lies(shelf, [0, 2], 3)
        self.assert_refused(NoPiece(1), shelf.piece, 1)
        self.assert_refused(NoPiece(1), shelf.drop, 1)
        self.assertEqual(told_of(shelf.piece(2)), told_of(pieces[2]))

    def test_a_number_is_never_given_again(self):
        shelf = Shelf()
        for number in range(5):
            self.assertEqual(shelf.put(whole(number)), number)
            shelf.drop(number)
            self.assert_lies(shelf, [], number + 1)
        shelf.lay(20, whole(1))
        shelf.drop(20)
        self.assertEqual(shelf.following(), 21)
        self.assertEqual(shelf.put(whole(2)), 21)

    def test_dropped_and_laid_again(self):
        shelf = Shelf()
        shelf.put(whole(1))
        shelf.put(whole(2))
        shelf.drop(0)
        shelf.lay(0, whole(7))
        self.assert_lies(shelf, [0, 1], 2)
        self.assertEqual(shelf.piece(0).day, 7)
        shelf.drop(1)
        shelf.lay(1, whole(8))
        self.assert_lies(shelf, [0, 1], 2)
        self.assertEqual(shelf.drop(1).day, 8)

    def test_what_is_told_is_the_piece(self):
        shelf = Shelf()
        for piece in (whole(1), Gain(0, 5, []), Gain(2, 9, [(3, 4), (5, 6)], 0), whole(1).harmed(0, 1)):
            number = shelf.put(piece)
            self.assertIs(type(shelf.piece(number)), type(piece))
            self.assertEqual(told_of(shelf.piece(number)), told_of(piece))
            shelf.lay(number + 50, piece)
            self.assertEqual(told_of(shelf.drop(number + 50)), told_of(piece))

    def test_the_told_list_is_the_askers_own(self):
        shelf = Shelf()
        shelf.put(whole(1))
        shelf.numbers().append(8)
        shelf.numbers().clear()
        self.assert_lies(shelf, [0], 1)

    def test_after_a_refusal_all_is_as_it_was(self):
        shelf = Shelf()
        shelf.lay(4, whole(1))
        shelf.put(whole(2))
        shelf.drop(4)
        before = lying_on(shelf)
        for number in (-1, 0, 4, 6, -5, 10 ** 9, 10 ** 30, -(10 ** 30)):
            self.assert_refused(NoPiece(number), shelf.piece, number)
            self.assert_refused(NoPiece(number), shelf.drop, number)
            self.assertEqual(lying_on(shelf), before)

    def test_many_orders_by_chance(self):
        chance = random.Random(30)
        for unused in range(40):
            shelf, held, follows = Shelf(), {}, 0
            for step in range(60):
                deed, number = chance.randrange(4), chance.randrange(-2, follows + 4)
                piece = chance.choice((whole(step), Gain(step, step + 1, [(1, step)])))
                if deed == 0:
                    self.assertEqual(shelf.put(piece), follows)
                    held[follows] = piece
                    follows += 1
                elif deed == 1 and number >= 0:
                    shelf.lay(number, piece)
                    held[number] = piece
                    follows = max(follows, number + 1)
                elif number in held:
                    self.assertEqual(told_of(shelf.drop(number)), told_of(held.pop(number)))
                else:
                    self.assert_refused(NoPiece(number), shelf.drop, number)
                told = [(number, told_of(held[number])) for number in sorted(held)]
                self.assertEqual(lying_on(shelf), (follows, told))


class Copies(Refusing):
    def setUp(self):
        self.shelf = Shelf()
        self.shelf.put(whole(1))
        self.shelf.lay(6, Gain(1, 4, [(0, 2)], 9))
        self.shelf.lay(9, whole(3))
        self.shelf.drop(9)

    def change(self, shelf):
        shelf.put(whole(20))
        shelf.lay(0, whole(21))
        shelf.drop(6)
        shelf.lay(40, whole(22))

    def test_alike(self):
        other = self.shelf.copied()
        self.assertIsInstance(other, Shelf)
        self.assertEqual(lying_on(other), lying_on(self.shelf))
        self.assertEqual(other.following(), 10)
        self.assertEqual(other.put(whole(5)), 10)
        self.assertEqual(lying_on(Shelf().copied()), (0, []))

    def test_a_changed_copy_leaves_the_shelf(self):
        before = lying_on(self.shelf)
        other = self.shelf.copied()
        self.change(other)
        self.assertEqual(lying_on(self.shelf), before)
        self.assertEqual(other.numbers(), [0, 10, 40])

    def test_a_changed_shelf_leaves_the_copy(self):
        other = self.shelf.copied()
        again = other.copied()
        before = lying_on(other)
        self.change(self.shelf)
        self.assertEqual(lying_on(other), before)
        self.assertEqual(lying_on(again), before)
        self.change(other)
        self.assertEqual(lying_on(again), before)

    def test_two_new_shelves_have_nothing_in_common(self):
        one, other = Shelf(), Shelf()
        one.put(whole(1))
        self.assertEqual(lying_on(other), (0, []))


class LastWhole(unittest.TestCase):
    def test_none(self):
        shelf = Shelf()
        self.assertIsNone(shelf.last_whole())
        shelf.put(Gain(0, 5, []))
        shelf.put(Gain(5, 9, [(0, 1)]))
        self.assertIsNone(shelf.last_whole())
        shelf.put(whole(4).harmed(0, 1))
        shelf.put(Whole(7, [(0, 1)], 3))
        self.assertIsNone(shelf.last_whole())

    def test_the_greatest_day_in_any_order(self):
        for days in ((0,), (1, 5, 3), (9, 2), (3, 3, 10 ** 9, 0)):
            shelf = Shelf()
            for day in days:
                shelf.put(whole(day))
            self.assertEqual(shelf.last_whole(), max(days))

    def test_day_0_is_a_day(self):
        shelf = Shelf()
        shelf.put(whole(0))
        shelf.put(Gain(0, 3, []))
        self.assertEqual(shelf.last_whole(), 0)

    def test_bad_ones_and_gains_do_not_count(self):
        shelf = Shelf()
        shelf.put(whole(2))
        shelf.put(whole(8).harmed(0, 5))
        shelf.put(Gain(2, 9, []))
        self.assertEqual(shelf.last_whole(), 2)
        shelf.lay(1, whole(8))
        self.assertEqual(shelf.last_whole(), 8)
        shelf.drop(1)
        self.assertEqual(shelf.last_whole(), 2)
        shelf.drop(0)
        self.assertIsNone(shelf.last_whole())


if __name__ == "__main__":
    unittest.main()
