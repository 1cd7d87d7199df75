"""Points 70 to 75: bad pieces, days lost and gone, and what other shelves can mend."""

import itertools
import unittest

from helping import (Draw, Refusing, W, all_ways_of_legs, days_by_chance, legs_by_chance, lying_on, shelf_by_chance,
                     shelf_with, told_by_definition, told_of)

from keepsakes.errors import Lost, NoDay
from keepsakes.least import legs_of, rate, way_of
from keepsakes.mending import answer, cuts, healed, joined, rescued
from keepsakes.pieces import Gain, Whole
from keepsakes.shelves import Shelf

# Day 1 is well; day 2 stands bad by 1; day 4 by 2, over 3 or over 5 and 6; day 8 by 3; 9 hangs on nothing.
LEGS = [(0, -1, 1, 0, 3), (1, 1, 2, 1, 1), (2, -1, 2, 1, 9), (3, 2, 4, 1, 1), (5, 1, 3, 1, 1), (6, 3, 4, 1, 1),
        (4, 4, 8, 1, 0), (7, 3, 2, 1, 0), (8, 2, 3, 0, 7), (9, 6, 4, 0, 0)]


def cuts_by_words(legs, day):
    """Point 71 word by word, by what all ways counted one by one tell of how bad each day stands."""
    bad = {at: price[0] for at, price in told_by_definition(legs)[0].items()}
    if day not in bad:
        return None
    stands = {**bad, -1: 0}
    return [sorted(leg[0] for leg in legs if stands.get(leg[1], 10 ** 9) <= place and stands[leg[2]] > place)
            for place in range(bad[day])]


class Told(unittest.TestCase):
    def assert_told(self, legs, day, told, found):
        for order in (list(legs), list(reversed(legs))):
            before = list(order)
            self.assertEqual(answer(order, day), told)
            self.assertIs(type(answer(order, day)), tuple)
            self.assertEqual(cuts(order, day), found)
            self.assertEqual(order, before)

    def test_well(self):
        self.assert_told(LEGS, 1, ("well", [0]), [])
        self.assert_told([(3, -1, 0, 0, 0)], 0, ("well", [3]), [])
        self.assert_told([(3, -1, 0, 1, 0), (4, -1, 0, 0, 9), (5, 0, 2, 0, 1)], 2, ("well", [4, 5]), [])

    def test_lost_by_one(self):
        self.assert_told(LEGS, 2, ("lost", [0, 1], [[1, 2, 5]]), [[1, 2, 5]])
        self.assert_told(LEGS, 3, ("lost", [0, 5], [[1, 2, 5]]), [[1, 2, 5]])
        self.assert_told([(7, -1, 4, 1, 2)], 4, ("lost", [7], [[7]]), [[7]])

    def test_lost_by_several(self):
        self.assert_told(LEGS, 4, ("lost", [0, 1, 3], [[1, 2, 5], [3, 6]]), [[1, 2, 5], [3, 6]])
        self.assert_told(LEGS, 8, ("lost", [0, 1, 3, 4], [[1, 2, 5], [3, 6], [4]]), [[1, 2, 5], [3, 6], [4]])

    def test_gone(self):
        for day in (0, 5, 6, 7, 9, 10 ** 9):
            self.assert_told(LEGS, day, ("gone", [1, 2, 3, 4, 8]), None)
        self.assert_told([], 0, ("gone", []), None)
        self.assert_told([(4, 1, 2, 0, 1), (5, 2, 1, 1, 1)], 2, ("gone", []), None)

    def test_what_is_told_is_the_askers_own(self):
        for unused in range(2):
            found = cuts(LEGS, 8)
            self.assertEqual(found, [[1, 2, 5], [3, 6], [4]])
            found[0].append(4)
            found.clear()
            told = answer(LEGS, 8)
            self.assertEqual(told, ("lost", [0, 1, 3, 4], [[1, 2, 5], [3, 6], [4]]))
            told[1].clear()
            told[2][1].clear()
            gone = answer(LEGS, 0)
            self.assertEqual(gone, ("gone", [1, 2, 3, 4, 8]))
            gone[1].clear()

    def test_against_all_ways(self):
        draw = Draw(71)
        kinds = {}
        for unused in range(1500):
            legs = legs_by_chance(draw)
            if draw.randrange(2):
                legs = [leg[:3] + (draw.choice((0, 1, 1)), leg[4]) for leg in legs]
            by_number = {leg[0]: leg for leg in legs}
            ways = all_ways_of_legs(legs)
            for day in range(5):
                found = cuts(legs, day)
                self.assertEqual(found, cuts_by_words(legs, day))
                told = answer(legs, day)
                kinds[told[0]] = kinds.get(told[0], 0) + 1
                if day not in ways:
                    self.assertEqual((found, told), (None, ("gone", sorted(ways))))
                    continue
                fewest = min(sum(leg[3] for leg in way) for way in ways[day])
                self.assertEqual(len(found), fewest)
                self.assertEqual(told, ("lost", way_of(legs, day), found) if fewest else ("well", way_of(legs, day)))
                listed = list(itertools.chain(*found))
                self.assertEqual(len(listed), len(set(listed)))
                self.assertTrue(all(by_number[number][3] == 1 for number in listed))
                for cut, way in itertools.product(found, ways[day]):
                    self.assertEqual(cut, sorted(cut))
                    self.assertTrue(any(leg[0] in cut for leg in way))
        self.assertGreater(min(kinds["well"], kinds["lost"], kinds["gone"]), 300)

    def test_no_leg_leads_out_of_the_days_that_are_told_with_a_gone_one(self):
        draw = Draw(72)
        for unused in range(300):
            legs = legs_by_chance(draw)
            told = answer(legs, 4)
            self.assertEqual(told[0], "gone")
            for number, start, day, bad, cost in legs:
                self.assertTrue(day in told[1] or (start != -1 and start not in told[1]))

    def test_a_long_row_of_bad_legs(self):
        legs = [(day, day - 1, day, 1, 1) for day in range(300)]
        self.assertEqual(cuts(legs, 299), [[day] for day in range(300)])
        self.assertEqual(answer(legs, 200), ("lost", list(range(201)), [[day] for day in range(201)]))


GOOD = [Whole(1, [(0, block)]) for block in range(4)]
BAD = [Whole(1, [(0, block)], 0) for block in range(4)]


class Joined(unittest.TestCase):
    def assert_joined(self, shelves, pieces):
        before = [lying_on(shelf) for shelf in shelves]
        handed = list(shelves)
        together = joined(handed)
        self.assertIs(type(together), Shelf)
        self.assertEqual(lying_on(together)[1], [(number, told_of(pieces[number])) for number in sorted(pieces)])
        self.assertEqual([lying_on(shelf) for shelf in handed], before)
        self.assertEqual(len(handed), len(shelves))

    def test_no_shelves_and_empty_ones(self):
        self.assert_joined([], {})
        self.assert_joined([Shelf()], {})
        self.assert_joined([Shelf(), Shelf()], {})

    def test_one_shelf(self):
        self.assert_joined([shelf_with({4: GOOD[0], 2: BAD[1]})], {2: BAD[1], 4: GOOD[0]})

    def test_numbers_of_several_shelves(self):
        self.assert_joined([shelf_with({4: GOOD[0]}), Shelf(), shelf_with({2: BAD[1], 9: GOOD[1]})],
                           {2: BAD[1], 4: GOOD[0], 9: GOOD[1]})

    def test_the_same_number_in_each_order(self):
        some = [GOOD[0], GOOD[1], BAD[2], BAD[3], None]
        for chosen in itertools.product(some, repeat=3):
            shelves = [shelf_with({} if piece is None else {5: piece}) for piece in chosen]
            there = [piece for piece in chosen if piece is not None]
            told = ([piece for piece in there if piece.is_good()] + there)[:1]
            self.assert_joined(shelves, {5: told[0]} if told else {})

    def test_one_shelf_twice(self):
        shelf = shelf_with({4: GOOD[0], 2: BAD[1]})
        self.assert_joined([shelf, shelf], {2: BAD[1], 4: GOOD[0]})

    def test_nothing_in_common_afterwards(self):
        one, other = shelf_with({4: GOOD[0], 2: BAD[1]}), shelf_with({2: GOOD[2]})
        for shelves in ([one], [one, other]):
            together = joined(shelves)
            before = lying_on(together)
            one.lay(4, GOOD[3])
            one.put(GOOD[3])
            other.lay(2, BAD[0])
            self.assertEqual(lying_on(together), before)
            before = (lying_on(one), lying_on(other))
            together.drop(4)
            together.lay(2, BAD[3])
            together.lay(0, BAD[3])
            self.assertEqual((lying_on(one), lying_on(other)), before)

    def test_no_greater_price(self):
        draw = Draw(73)
        for unused in range(100):
            days = days_by_chance(draw, 3, 8)
            whole = shelf_by_chance(draw, days)
            shelves = [self.copy_drawn(draw, whole) for unused_too in range(3)]
            cost = rate(draw.randrange(3), draw.randrange(3))
            together = legs_of(joined(shelves), cost)
            for shelf in shelves:
                for day in range(9):
                    one, all_three = self.price(legs_of(shelf, cost), day), self.price(together, day)
                    self.assertTrue(one is None or all_three <= one)

    def copy_drawn(self, draw, shelf):
        other = shelf.copied()
        for number in shelf.numbers():
            piece = shelf.piece(number)
            if draw.randrange(3) == 0:
                other.drop(number)
            elif piece.is_good() and piece.size() and draw.randrange(2):
                other.lay(number, piece.harmed(0, 7))
        return other

    def price(self, legs, day):
        return told_by_definition(legs)[0].get(day)


class Healed(unittest.TestCase):
    def assert_healed(self, shelf, other, pieces, replaced):
        before = (lying_on(shelf), lying_on(other))
        told = healed(shelf, other)
        self.assertIs(type(told), tuple)
        self.assertEqual([type(part) for part in told], [Shelf, list])
        self.assertEqual(told[1], replaced)
        self.assertEqual(lying_on(told[0]),
                         (shelf.following(), [(number, told_of(pieces[number])) for number in sorted(pieces)]))
        self.assertEqual((lying_on(shelf), lying_on(other)), before)

    def test_a_good_one_a_bad_one_and_none(self):
        shelf = shelf_with({9: BAD[0], 4: BAD[1], 6: BAD[2], 7: GOOD[3], 2: BAD[3], 3: GOOD[1]})
        other = shelf_with({9: GOOD[1], 4: BAD[0], 7: GOOD[2], 2: GOOD[0], 3: BAD[1], 30: GOOD[0], 5: GOOD[2]})
        self.assert_healed(shelf, other, {2: GOOD[0], 3: GOOD[1], 4: BAD[1], 6: BAD[2], 7: GOOD[3], 9: GOOD[1]}, [2, 9])
        self.assertEqual(healed(shelf, other)[0].following(), 10)

    def test_by_itself(self):
        shelf = shelf_with({9: BAD[0], 4: GOOD[1]})
        self.assert_healed(shelf, shelf, {9: BAD[0], 4: GOOD[1]}, [])

    def test_empty_ones(self):
        self.assert_healed(Shelf(), shelf_with({4: GOOD[1]}), {}, [])
        self.assert_healed(shelf_with({4: BAD[1]}), Shelf(), {4: BAD[1]}, [])
        self.assert_healed(Shelf(), Shelf(), {}, [])

    def test_the_number_that_follows(self):
        shelf = shelf_with({1: BAD[0], 20: GOOD[0]})
        shelf.drop(20)
        self.assert_healed(shelf, shelf_with({1: GOOD[0], 50: GOOD[1]}), {1: GOOD[0]}, [1])
        self.assertEqual(healed(shelf, shelf_with({1: GOOD[0]}))[0].put(GOOD[1]), 21)

    def test_nothing_in_common_afterwards(self):
        for pieces in ({1: GOOD[2]}, {}):
            shelf, other = shelf_with({1: BAD[0], 2: GOOD[0]}), shelf_with(pieces)
            left, replaced = healed(shelf, other)
            before = lying_on(left)
            shelf.drop(2)
            other.lay(1, GOOD[3])
            self.assertEqual(lying_on(left), before)
            before = (lying_on(shelf), lying_on(other))
            left.drop(1)
            left.put(GOOD[1])
            replaced.append(9)
            self.assertEqual((lying_on(shelf), lying_on(other)), before)

    def test_shelves_drawn(self):
        draw = Draw(74)
        in_all = 0
        for unused in range(400):
            shelf, other = shelf_by_chance(draw), shelf_by_chance(draw)
            told = {number: shelf.piece(number) for number in shelf.numbers()}
            replaced = [number for number in told if not told[number].is_good()
                        and number in other.numbers() and other.piece(number).is_good()]
            told.update({number: other.piece(number) for number in replaced})
            self.assert_healed(shelf, other, told, replaced)
            in_all += len(replaced)
        self.assertGreater(in_all, 30)


class Rescued(Refusing):
    def shelf(self):
        # Day 3 is well over 0 and 2; day 5 is lost by 3, or by 4 that is dearer; day 6 hangs on it.
        return shelf_with({0: Whole(1, [(0, 10), (1, 11)]), 1: Whole(3, [(0, 99), (1, 99)], 1),
                           2: Gain(1, 3, [(1, 30)]), 3: Gain(3, 5, [(0, W)], 1),
                           4: Gain(1, 5, [(0, 1), (1, 2)], 1), 7: Gain(5, 6, [], 1), 8: Gain(8, 9, [])})

    def test_well_days(self):
        shelf = self.shelf()
        before = lying_on(shelf)
        for cost in (rate(1, 1), rate(0, 0), rate(10 ** 24, 10 ** 24), lambda piece: 7):
            self.assertEqual(rescued(shelf, cost, 1), [10, 11])
            self.assertEqual(rescued(shelf, cost, 3), [10, 30])
            rescued(shelf, cost, 3).clear()
        self.assertEqual(lying_on(shelf), before)

    def test_the_told_way_is_laid_down(self):
        # The pieces by hand give other tables by other ways, so it shows which way was gone.
        shelf = shelf_with({0: Whole(1, [(0, 1)]), 1: Gain(1, 2, [(0, 2)]), 2: Whole(2, [(0, 3)]), 3: Gain(1, 2, [])})
        self.assertEqual(rescued(shelf, rate(1, 1), 2), [3])
        self.assertEqual(rescued(shelf, lambda piece: 9 if piece.kind() == "whole" and piece.day == 2 else 1, 2), [2])
        self.assertEqual(rescued(shelf, lambda piece: 0 if piece.size() == 0 else 9 * piece.day, 2), [1])

    def test_gone_days(self):
        for day in (0, 2, 4, 7, 8, 9, 10 ** 9):
            self.assert_refused(NoDay(day), rescued, self.shelf(), rate(1, 1), day)
        self.assert_refused(NoDay(0), rescued, Shelf(), rate(1, 1), 0)

    def test_lost_days(self):
        self.assert_refused(Lost(5, [[3, 4]]), rescued, self.shelf(), rate(1, 1), 5)
        self.assert_refused(Lost(6, [[3, 4], [7]]), rescued, self.shelf(), rate(1, 1), 6)
        self.assert_refused(Lost(1, [[0]]), rescued, shelf_with({0: Whole(1, [(0, 1)], 1)}), rate(0, 0), 1)

    def test_tables_of_a_row_of_days(self):
        draw = Draw(75)
        told = {}
        for unused in range(150):
            days = days_by_chance(draw, 3, 7)
            shelf = shelf_by_chance(draw, days)
            cost = rate(draw.randrange(3), draw.randrange(3))
            legs = legs_of(shelf, cost)
            for day in range(8):
                found = cuts_by_words(legs, day)
                kind = "gone" if found is None else "lost" if found else "well"
                told[kind] = told.get(kind, 0) + 1
                if kind == "well":
                    self.assertEqual(rescued(shelf, cost, day), days.table(day))
                else:
                    error = NoDay(day) if kind == "gone" else Lost(day, found)
                    self.assert_refused(error, rescued, shelf, cost, day)
        self.assertGreater(min(told.values()), 30)


if __name__ == "__main__":
    unittest.main()
