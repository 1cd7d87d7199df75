"""Points 5, 6 and 41 to 43: legs, prices, last legs and told ways."""

import random
import unittest

from helping import (W, all_ways_of_legs, legs_by_chance, lying_on, price_by_sums, priced_in_rounds,
                     told_by_definition)

from keepsakes.least import last_legs, legs_of, prices, rate, way_of
from keepsakes.pieces import Gain, Whole
from keepsakes.shelves import Shelf

GREAT = 10 ** 30


class Legs(unittest.TestCase):
    def test_rates(self):
        some = [Whole(1, [(0, 1)]), Whole(1, [(place, 1) for place in range(40)]), Gain(0, 1, []),
                Gain(0, 1, [(3, 4)], 9)]
        for seek in (0, 1, 7, 10 ** 24):
            for each in (0, 1, 5, 10 ** 24):
                cost = rate(seek, each)
                self.assertEqual([cost(piece) for piece in some], [seek + each, seek + 40 * each, seek, seek + each])
                self.assertIs(type(cost(some[0])), int)

    def test_two_rates_have_nothing_in_common(self):
        one, other = rate(1, 2), rate(30, 40)
        piece = Whole(1, [(0, 1), (1, 1)])
        self.assertEqual((one(piece), other(piece), one(piece)), (5, 110, 5))

    def test_legs_of_a_shelf(self):
        shelf = Shelf()
        shelf.lay(9, Whole(3, [(0, 1), (1, W)]))
        shelf.lay(4, Gain(3, 8, []))
        shelf.put(Gain(2, 8, [(0, 1)]).harmed(0, 2))
        shelf.put(Whole(0, [(0, 0)], 1))
        shelf.lay(0, Whole(5, [(0, 1)]))
        shelf.drop(0)
        shelf.lay(2, Gain(0, 10 ** 9, [(0, 6), (4, 6), (5, 6)]))
        before = lying_on(shelf)
        legs = legs_of(shelf, rate(10, 3))
        self.assertEqual(legs, [(2, 0, 10 ** 9, 0, 19), (4, 3, 8, 0, 10), (9, -1, 3, 0, 16), (10, 2, 8, 1, 13),
                                (11, -1, 0, 1, 13)])
        for leg in legs:
            self.assertIs(type(leg), tuple)
            self.assertEqual([type(number) for number in leg], [int] * 5)
        legs.clear()
        self.assertEqual(len(legs_of(shelf, rate(10, 3))), 5)
        self.assertEqual(lying_on(shelf), before)

    def test_a_shelf_without_pieces(self):
        self.assertEqual(legs_of(Shelf(), rate(1, 1)), [])

    def test_a_cost_that_is_not_a_rate(self):
        shelf = Shelf()
        shelf.put(Whole(3, [(0, 50)]))
        shelf.put(Gain(3, 4, [(0, 7)]))
        self.assertEqual(legs_of(shelf, lambda piece: piece.day * 100 + piece.rows[0][1]),
                         [(0, -1, 3, 0, 350), (1, 3, 4, 0, 407)])
        self.assertEqual(legs_of(shelf, lambda piece: 0), [(0, -1, 3, 0, 0), (1, 3, 4, 0, 0)])


class Least(unittest.TestCase):
    def assert_told(self, legs, priced, last, ways):
        for order in (list(legs), list(reversed(legs)), sorted(legs, key=lambda leg: leg[2])):
            before = list(order)
            self.assertEqual(prices(order), priced)
            self.assertEqual(last_legs(order), last)
            for day in range(-1, 12):
                self.assertEqual(way_of(order, day), ways.get(day))
            self.assertEqual(order, before)

    def test_no_legs(self):
        self.assert_told([], {}, {}, {})

    def test_one_leg(self):
        self.assert_told([(5, -1, 0, 0, 0)], {0: (0, 0, 1)}, {0: 5}, {0: [5]})
        self.assert_told([(0, -1, 7, 1, GREAT)], {7: (1, GREAT, 1)}, {7: 0}, {7: [0]})

    def test_legs_that_hang_on_nothing(self):
        self.assert_told([(0, 1, 2, 0, 3), (1, 2, 1, 0, 3), (2, 2, 3, 0, 0)], {}, {}, {})
        self.assert_told([(0, 1, 2, 0, 3), (1, -1, 5, 0, 3)], {5: (0, 3, 1)}, {5: 1}, {5: [1]})

    def test_several_legs_between_the_same_days(self):
        legs = [(4, -1, 1, 0, 7), (2, -1, 1, 0, 5), (3, -1, 1, 0, 5), (1, -1, 1, 1, 0)]
        self.assert_told(legs, {1: (0, 5, 1)}, {1: 2}, {1: [2]})

    def test_bad_legs_against_dearer_good_ones(self):
        legs = [(0, -1, 1, 1, 0), (1, -1, 1, 0, GREAT), (2, 1, 2, 0, GREAT), (3, -1, 2, 1, 1)]
        self.assert_told(legs, {1: (0, GREAT, 1), 2: (0, 2 * GREAT, 2)}, {1: 1, 2: 2}, {1: [1], 2: [1, 2]})
        legs = [(0, -1, 1, 1, 9), (1, 1, 2, 1, 0), (2, -1, 3, 0, 5), (3, 3, 2, 1, 8)]
        self.assert_told(legs, {1: (1, 9, 1), 2: (1, 13, 2), 3: (0, 5, 1)}, {1: 0, 2: 3, 3: 2},
                         {1: [0], 2: [2, 3], 3: [2]})

    def test_cost_ahead_of_the_count(self):
        legs = [(0, -1, 3, 0, 10), (1, -1, 1, 0, 3), (2, 1, 2, 0, 3), (3, 2, 3, 0, 3)]
        self.assert_told(legs, {1: (0, 3, 1), 2: (0, 6, 2), 3: (0, 9, 3)}, {1: 1, 2: 2, 3: 3},
                         {1: [1], 2: [1, 2], 3: [1, 2, 3]})

    def test_the_count_where_costs_are_equal(self):
        legs = [(9, -1, 3, 0, 9), (1, -1, 1, 0, 3), (2, 1, 2, 0, 3), (3, 2, 3, 0, 3)]
        self.assert_told(legs, {1: (0, 3, 1), 2: (0, 6, 2), 3: (0, 9, 1)}, {1: 1, 2: 2, 3: 9},
                         {1: [1], 2: [1, 2], 3: [9]})

    def test_equal_prices_and_the_least_number(self):
        # Both ways to day 3 have the price (0, 4, 2): the last leg tells, not the first one.
        legs = [(0, -1, 1, 0, 2), (7, 1, 3, 0, 2), (8, -1, 2, 0, 2), (5, 2, 3, 0, 2)]
        self.assert_told(legs, {1: (0, 2, 1), 2: (0, 2, 1), 3: (0, 4, 2)}, {1: 0, 2: 8, 3: 5},
                         {1: [0], 2: [8], 3: [8, 5]})
        # Two ways that end with the same leg: the day ahead goes by its own told way.
        legs = [(6, -1, 1, 0, 1), (3, -1, 1, 0, 1), (1, 1, 2, 0, 1), (0, -1, 2, 0, 3)]
        self.assert_told(legs, {1: (0, 1, 1), 2: (0, 2, 2)}, {1: 3, 2: 1}, {1: [3], 2: [3, 1]})

    def test_the_start_must_be_at_its_own_price(self):
        # Number 0 leads at the least last cost, but from a day that costs more.
        legs = [(0, 1, 3, 0, 0), (1, -1, 1, 0, 9), (2, -1, 2, 0, 1), (3, 2, 3, 0, 1)]
        self.assert_told(legs, {1: (0, 9, 1), 2: (0, 1, 1), 3: (0, 2, 2)}, {1: 1, 2: 2, 3: 3},
                         {1: [1], 2: [2], 3: [2, 3]})

    def test_costs_of_0(self):
        legs = [(3, -1, 1, 0, 0), (2, 1, 2, 0, 0), (1, 2, 3, 0, 0), (0, 3, 1, 0, 0)]
        self.assert_told(legs, {1: (0, 0, 1), 2: (0, 0, 2), 3: (0, 0, 3)}, {1: 3, 2: 2, 3: 1},
                         {1: [3], 2: [3, 2], 3: [3, 2, 1]})

    def test_rings(self):
        legs = [(0, 2, 1, 0, 0), (1, 1, 2, 0, 0), (2, -1, 2, 0, 5), (3, 1, 3, 0, 1), (4, 3, 2, 0, 0)]
        self.assert_told(legs, {1: (0, 5, 2), 2: (0, 5, 1), 3: (0, 6, 3)}, {1: 0, 2: 2, 3: 3},
                         {1: [2, 0], 2: [2], 3: [2, 0, 3]})
        legs = [(0, -1, 9, 0, 1), (1, 9, 4, 0, 1), (2, 4, 0, 0, 1), (3, 0, 9, 0, 0)]
        self.assert_told(legs, {9: (0, 1, 1), 4: (0, 2, 2), 0: (0, 3, 3)}, {9: 0, 4: 1, 0: 2},
                         {9: [0], 4: [0, 1], 0: [0, 1, 2]})

    def test_against_all_ways(self):
        chance = random.Random(43)
        equal = 0
        for unused in range(1500):
            legs = legs_by_chance(chance)
            before = list(legs)
            priced, last, ways = told_by_definition(legs)
            self.assertEqual(prices(legs), priced)
            self.assertEqual(last_legs(legs), last)
            for day in range(-1, 5):
                self.assertEqual(way_of(legs, day), ways.get(day))
            self.assertEqual(legs, before)
            for day, some in all_ways_of_legs(legs).items():
                equal += sum(price_by_sums(way) == priced[day] for way in some) > 1
        self.assertGreater(equal, 40)

    def test_many_legs(self):
        chance = random.Random(44)
        for most in (2, GREAT):
            legs = []
            for number in chance.sample(range(10 ** 9), 300):
                day = chance.randrange(60)
                start = chance.choice((-1, (day + chance.randrange(1, 60)) % 60, (day + 1) % 60))
                legs.append((number, start, day, chance.randrange(2), chance.randrange(most + 1)))
            priced = prices(legs)
            self.assertEqual(priced, priced_in_rounds(legs))
            self.assertEqual(sorted(last_legs(legs)), sorted(priced))
            by_number = {leg[0]: leg for leg in legs}
            for day in range(60):
                way = way_of(legs, day)
                self.assertEqual(way is None, day not in priced)
                if way is not None:
                    self.assertEqual(price_by_sums([by_number[number] for number in way]), priced[day])

    def test_a_long_row(self):
        legs = [(day, day - 1, day, 1, GREAT) for day in range(300)]
        self.assertEqual(prices(legs)[299], (300, 300 * GREAT, 300))
        self.assertEqual(way_of(legs, 299), list(range(300)))

    def test_what_is_told_is_the_askers_own(self):
        legs = [(3, -1, 1, 0, 2), (2, 1, 2, 0, 0)]
        prices(legs).clear()
        last_legs(legs)[1] = 99
        way_of(legs, 2).append(8)
        self.assert_told(legs, {1: (0, 2, 1), 2: (0, 2, 2)}, {1: 3, 2: 2}, {1: [3], 2: [3, 2]})
        told = (prices(legs), last_legs(legs), way_of(legs, 2))
        legs.clear()
        self.assertEqual(told, ({1: (0, 2, 1), 2: (0, 2, 2)}, {1: 3, 2: 2}, [3, 2]))

    def test_whole_numbers(self):
        for day, price in prices([(3, -1, 1, 0, 2), (2, 1, 2, 1, 0)]).items():
            self.assertIs(type(price), tuple)
            self.assertEqual([type(number) for number in (day,) + price], [int] * 4)


if __name__ == "__main__":
    unittest.main()
