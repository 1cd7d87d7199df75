"""Points 34 to 38: ways over the pieces on a shelf."""

import random
import unittest

from helping import Refusing, W, days_by_chance, lying_on, shelf_by_chance, shelf_with

from keepsakes.errors import BadPiece, NoPiece, NoWay
from keepsakes.pieces import Gain, Whole, gain_of, whole_of
from keepsakes.shelves import Shelf
from keepsakes.ways import fetched, is_way, reached, way_to


def small_shelf():
    # Day 5 has the ways 0 2 4, 0 3 and 7 4; number 6 hangs on nothing, number 3 is bad.
    return shelf_with({
        0: Whole(1, [(0, 10), (1, 11)]),
        2: Gain(1, 3, [(0, 30)]),
        3: Gain(1, 5, [(0, 30), (1, 51)]).harmed(0, 4),
        4: Gain(3, 5, [(1, 51)]),
        6: Gain(2, 6, [(1, 61)]),
        7: Whole(3, [(0, 30), (1, 11)]),
        9: Gain(5, 8, []),
    })


def all_ways(shelf, good=False):
    """Every way on the shelf by the day to which it leads; gains lead to later days, so there are only so many."""
    found = {}
    row = [([], -1)]
    while row:
        way, at = row.pop()
        for number in shelf.numbers():
            piece = shelf.piece(number)
            if piece.start() == at and (piece.is_good() or not good):
                found.setdefault(piece.day, []).append(way + [number])
                row.append((way + [number], piece.day))
    return found


class IsWay(unittest.TestCase):
    def setUp(self):
        self.shelf = small_shelf()

    def test_ways(self):
        for way, day in (([0], 1), ([7], 3), ([0, 2], 3), ([0, 2, 4], 5), ([7, 4], 5), ([7, 4, 9], 8)):
            self.assertIs(is_way(self.shelf, way, day), True)

    def test_bad_pieces_are_not_asked_for(self):
        self.assertIs(is_way(self.shelf, [0, 3], 5), True)
        self.assertIs(is_way(self.shelf, [0, 3, 9], 8), True)
        self.shelf.lay(0, self.shelf.piece(0).harmed(1, 1))
        self.assertIs(is_way(self.shelf, [0], 1), True)

    def test_the_empty_list(self):
        for day in (0, 1, 5, -1):
            self.assertIs(is_way(self.shelf, [], day), False)
            self.assertIs(is_way(Shelf(), [], day), False)

    def test_nothing_lies_there(self):
        for way in ([1], [-1], [0, 1], [0, 2, 5], [1, 0], [0, -1], [10 ** 9], [0, 2, 4, -7]):
            for day in (0, 1, 3, 5, -1):
                self.assertIs(is_way(self.shelf, way, day), False)
        self.shelf.drop(2)
        self.assertIs(is_way(self.shelf, [0, 2], 3), False)

    def test_a_gain_first(self):
        for way, day in (([2], 3), ([2, 4], 5), ([6], 6), ([4], 5)):
            self.assertIs(is_way(self.shelf, way, day), False)

    def test_a_whole_piece_behind_the_first(self):
        for way, day in (([0, 7], 3), ([0, 7, 4], 5), ([0, 2, 7], 3), ([7, 7], 3), ([0, 0], 1)):
            self.assertIs(is_way(self.shelf, way, day), False)

    def test_a_piece_that_starts_elsewhere(self):
        for way, day in (([0, 4], 5), ([7, 2], 3), ([0, 6], 6), ([7, 9], 8), ([0, 2, 9], 8)):
            self.assertIs(is_way(self.shelf, way, day), False)

    def test_the_wrong_day(self):
        for day in (0, 1, 3, 4, 6, -1, 10 ** 9):
            self.assertIs(is_way(self.shelf, [0, 2, 4], day), False)
        self.assertIs(is_way(self.shelf, [0], 0), False)

    def test_a_number_several_times(self):
        for way, day in (([0, 2, 2], 3), ([0, 2, 4, 4], 5), ([0, 2, 4, 2], 3), ([7, 4, 7], 3)):
            self.assertIs(is_way(self.shelf, way, day), False)

    def test_against_all_ways(self):
        chance = random.Random(34)
        for unused in range(60):
            shelf = shelf_by_chance(chance)
            ways = all_ways(shelf)
            before = lying_on(shelf)
            for day in range(-1, 9):
                for way in ways.get(day, []):
                    self.assertIs(is_way(shelf, way, day), True)
                for tried in range(30):
                    way = [chance.choice(shelf.numbers() + [40]) for unused_too in range(chance.randrange(4))]
                    self.assertIs(is_way(shelf, way, day), way in ways.get(day, []))
            self.assertEqual(lying_on(shelf), before)


class Fetching(Refusing):
    def setUp(self):
        self.shelf = small_shelf()

    def test_over_one_and_many(self):
        for way, table in (([0], [10, 11]), ([7], [30, 11]), ([0, 2], [30, 11]), ([0, 2, 4], [30, 51]),
                           ([7, 4], [30, 51]), ([7, 4, 9], [30, 51])):
            self.assertEqual(fetched(self.shelf, way), table)

    def test_what_is_told_and_handed_in(self):
        way = [0, 2, 4, 9]
        before = lying_on(self.shelf)
        told = fetched(self.shelf, way)
        told[0] = 99
        told.append(5)
        self.assertEqual(fetched(self.shelf, way), [30, 51])
        self.assertEqual(way, [0, 2, 4, 9])
        self.assertEqual(lying_on(self.shelf), before)

    def test_the_empty_list(self):
        self.assert_refused(NoWay(0), fetched, self.shelf, [])
        self.assert_refused(NoWay(0), fetched, Shelf(), [])

    def test_no_piece(self):
        for number in (-1, 1, 8, 10 ** 9):
            for way in ([number], [number, 0], [0, number], [0, number, 4], [0, 2, number], [0, 2, 4, 9, number]):
                self.assert_refused(NoPiece(number), fetched, self.shelf, way)

    def test_no_way(self):
        for way, at in (([2], 0), ([6, 1], 0), ([2, 4], 0), ([0, 4], 1), ([0, 7], 1), ([0, 0], 1), ([0, 4, 9], 1),
                        ([0, 2, 6], 2), ([7, 4, 2], 2), ([0, 2, 4, 7], 3), ([0, 2, 4, 4], 3), ([7, 4, 9, 9], 3)):
            self.assert_refused(NoWay(at), fetched, self.shelf, way)

    def test_bad_piece(self):
        self.assert_refused(BadPiece(5), fetched, self.shelf, [0, 3])
        self.assert_refused(BadPiece(5), fetched, self.shelf, [0, 3, 9])
        self.shelf.lay(0, self.shelf.piece(0).harmed(1, 1))
        for way in ([0], [0, 3], [0, 2, 4]):
            self.assert_refused(BadPiece(1), fetched, self.shelf, way)

    def test_which_is_raised_of_several(self):
        self.assert_refused(NoPiece(1), fetched, self.shelf, [1, 2, 3])
        self.assert_refused(NoWay(0), fetched, self.shelf, [2, 1, 3])
        # The piece of number 3 is bad and starts elsewhere too, and that is asked first.
        self.assert_refused(NoWay(0), fetched, self.shelf, [3])
        self.assert_refused(NoWay(1), fetched, self.shelf, [7, 3])
        self.assert_refused(BadPiece(5), fetched, self.shelf, [0, 3, 1])
        self.assert_refused(BadPiece(5), fetched, self.shelf, [0, 3, 7])
        self.assert_refused(NoPiece(5), fetched, self.shelf, [0, 5, 3])
        self.assert_refused(NoWay(1), fetched, self.shelf, [0, 6, 5])
        before = lying_on(self.shelf)
        self.assert_refused(NoPiece(8), fetched, self.shelf, [0, 2, 8])
        self.assertEqual(lying_on(self.shelf), before)

    def test_every_way_gives_the_table_of_its_day(self):
        chance = random.Random(36)
        tried = 0
        for wide in (1, 2, 5, 40):
            for unused in range(60):
                days = days_by_chance(chance, wide, 9)
                shelf = shelf_by_chance(chance, days)
                for day, ways in all_ways(shelf).items():
                    for way in ways:
                        if all(shelf.piece(number).is_good() for number in way):
                            tried += 1
                            self.assertEqual(fetched(shelf, way), days.table(day))
                        else:
                            with self.assertRaises(BadPiece):
                                fetched(shelf, way)
        self.assertGreater(tried, 300)


class Reaching(unittest.TestCase):
    def test_small_shelf(self):
        shelf = small_shelf()
        self.assertEqual(reached(shelf), [1, 3, 5, 8])
        self.assertEqual(reached(shelf, True), [1, 3, 5, 8])
        self.assertEqual(reached(shelf, good=False), [1, 3, 5, 8])
        shelf.drop(4)
        self.assertEqual(reached(shelf), [1, 3, 5, 8])
        self.assertEqual(reached(shelf, good=True), [1, 3])
        shelf.lay(0, shelf.piece(0).harmed(0, 1))
        self.assertEqual(reached(shelf), [1, 3, 5, 8])
        self.assertEqual(reached(shelf, True), [3])
        shelf.drop(7)
        self.assertEqual(reached(shelf, True), [])

    def test_nothing_is_reached(self):
        self.assertEqual(reached(Shelf()), [])
        self.assertEqual(reached(Shelf(), True), [])
        self.assertEqual(reached(shelf_with({0: Gain(0, 1, []), 1: Gain(1, 2, [])})), [])

    def test_day_0(self):
        shelf = shelf_with({5: Whole(0, [(0, 0)]), 2: Gain(0, 4, [])})
        self.assertEqual(reached(shelf), [0, 4])
        self.assertEqual(way_to(shelf, 0), [5])
        self.assertEqual(way_to(shelf, 4), [5, 2])

    def test_a_told_list_is_the_askers_own(self):
        shelf = small_shelf()
        reached(shelf).append(4)
        way_to(shelf, 5).append(4)
        self.assertEqual(reached(shelf), [1, 3, 5, 8])
        self.assertEqual(len(way_to(shelf, 5)), 2)

    def test_few_pieces(self):
        shelf = small_shelf()
        self.assertIn(way_to(shelf, 5), ([0, 3], [7, 4]))
        self.assertEqual(way_to(shelf, 5, True), [7, 4])
        self.assertEqual(way_to(shelf, 3), [7])
        self.assertEqual(way_to(shelf, 8, good=True), [7, 4, 9])
        shelf.drop(7)
        self.assertEqual(way_to(shelf, 5), [0, 3])
        self.assertEqual(way_to(shelf, 5, True), [0, 2, 4])
        shelf.drop(4)
        self.assertEqual(way_to(shelf, 5), [0, 3])
        self.assertIsNone(way_to(shelf, 5, True))

    def test_none(self):
        shelf = small_shelf()
        for day in (0, 2, 4, 6, 7, 9, -1, 10 ** 9):
            self.assertIsNone(way_to(shelf, day))
            self.assertIsNone(way_to(shelf, day, True))
            self.assertIsNone(way_to(Shelf(), day))

    def test_a_long_row(self):
        shelf = Shelf()
        shelf.put(Whole(0, [(0, 0)]))
        for day in range(1, 300):
            shelf.put(Gain(day - 1, day, [(0, day)]))
        self.assertEqual(reached(shelf, True), list(range(300)))
        self.assertEqual(way_to(shelf, 299, True), list(range(300)))
        self.assertEqual(fetched(shelf, way_to(shelf, 299)), [299])

    def test_against_all_ways(self):
        chance = random.Random(37)
        many_ways = 0
        for unused in range(300):
            shelf = shelf_by_chance(chance)
            before = lying_on(shelf)
            for good in (False, True):
                ways = all_ways(shelf, good)
                self.assertEqual(reached(shelf, good), sorted(ways))
                for day in range(-1, 9):
                    found = way_to(shelf, day, good)
                    if day not in ways:
                        self.assertIsNone(found)
                    else:
                        many_ways += len({len(way) for way in ways[day]}) > 1
                        self.assertIn(found, ways[day])
                        self.assertEqual(len(found), min(len(way) for way in ways[day]))
            self.assertEqual(lying_on(shelf), before)
        self.assertGreater(many_ways, 50)


if __name__ == "__main__":
    unittest.main()
