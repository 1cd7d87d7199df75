"""Points 56 to 58: needed legs, and throwing away what no wanted day needs."""

import unittest

from helping import (Draw, days_by_chance, legs_by_chance, lying_on, shelf_by_chance, shelf_with, told_by_definition,
                     told_of)

from keepsakes.least import legs_of, prices, rate, way_of
from keepsakes.pieces import Gain, Whole, gain_of, whole_of
from keepsakes.rules import AnyOf, Apart, LastFew, OneOfEach, Rule, Sealed
from keepsakes.shelves import Shelf
from keepsakes.tidy import needed, tidied
from keepsakes.ways import reached

# Day 3 is told by 0 4, day 5 by 0 4 2, day 6 by 0 1, day 8 by 9; 3 and 7 are dearer, 8 hangs on nothing.
LEGS = [(0, -1, 1, 0, 2), (1, 1, 6, 0, 1), (2, 3, 5, 0, 1), (3, -1, 5, 0, 9), (4, 1, 3, 0, 1), (7, 5, 6, 0, 9),
        (8, 7, 8, 0, 0), (9, -1, 8, 1, 1)]


def rules_drawn(draw):
    return [Rule(), LastFew(draw.randrange(4)), OneOfEach(draw.randrange(1, 5)), Apart(draw.randrange(1, 5)),
            OneOfEach(draw.randrange(1, 4), draw.randrange(3)), Sealed([draw.randrange(9) for unused in range(3)]),
            AnyOf([LastFew(1), OneOfEach(4)])]


class Needed(unittest.TestCase):
    def assert_needed(self, legs, wanted, numbers):
        for order in (list(legs), list(reversed(legs))):
            handed = list(wanted)
            before = list(order)
            told = needed(order, handed)
            self.assertEqual(told, numbers)
            self.assertIs(type(told), list)
            self.assertEqual((order, handed), (before, wanted))
            told.append(77)
            self.assertEqual(needed(order, handed), numbers)

    def test_one_day(self):
        self.assert_needed(LEGS, [1], [0])
        self.assert_needed(LEGS, [3], [0, 4])
        self.assert_needed(LEGS, [5], [0, 2, 4])
        self.assert_needed(LEGS, [6], [0, 1])
        self.assert_needed(LEGS, [8], [9])

    def test_none_and_days_without_a_way(self):
        self.assert_needed(LEGS, [], [])
        self.assert_needed(LEGS, [0, 2, 7, 10 ** 9], [])
        self.assert_needed([], [0, 1, 2], [])
        self.assert_needed([(5, 1, 2, 0, 0), (6, 2, 1, 0, 0)], [1, 2], [])

    def test_several_days_in_any_order_and_twice(self):
        for wanted in ([5, 6], [6, 5], [5, 6, 5, 6], [2, 6, 7, 5, 3, 1, 6], [1, 3, 5, 6]):
            self.assert_needed(LEGS, wanted, [0, 1, 2, 4])
        self.assert_needed(LEGS, [8, 0, 3, 8], [0, 4, 9])

    def test_against_the_told_ways(self):
        draw = Draw(56)
        shared = 0
        for unused in range(1200):
            legs = legs_by_chance(draw)
            wanted = [draw.randrange(5) for unused_too in range(draw.randrange(5))]
            ways = told_by_definition(legs)[2]
            found = set()
            for day in set(wanted):
                shared += bool(found & set(ways.get(day, [])))
                found.update(ways.get(day, []))
            self.assertEqual(needed(legs, wanted), sorted(found))
        self.assertGreater(shared, 50)

    def test_a_long_row(self):
        legs = [(day, day - 1, day, 0, 1) for day in range(300)]
        self.assertEqual(needed(legs, list(range(300))), list(range(300)))
        self.assertEqual(needed(legs, [250, 20]), list(range(251)))


class Tidied(unittest.TestCase):
    def shelf(self):
        # Day 4 has the pieces 2, 3 and 8 of which 3 is bad; 5 hangs on nothing; 11 was dropped.
        shelf = shelf_with({
            0: Whole(1, [(0, 1), (1, 1)]),
            2: Gain(1, 4, [(0, 4), (1, 4)]),
            3: Gain(1, 4, [(0, 4)]).harmed(0, 1),
            5: Gain(3, 6, [(0, 6)]),
            8: Whole(4, [(0, 4), (1, 1)]),
            9: Gain(4, 7, [(1, 7)], 5),
            11: Whole(9, [(0, 0), (1, 0)])})
        shelf.drop(11)
        return shelf

    def assert_tidied(self, rule, cost, wanted, thrown):
        shelf = self.shelf()
        before = lying_on(shelf)
        told = tidied(shelf, rule, cost)
        self.assertIs(type(told), tuple)
        self.assertEqual(told[1:], (wanted, thrown))
        self.assertEqual([type(part) for part in told], [Shelf, list, list])
        self.assertEqual(lying_on(told[0]), (12, [row for row in before[1] if row[0] not in thrown]))
        self.assertEqual(lying_on(shelf), before)

    def test_by_a_rule(self):
        self.assert_tidied(Sealed([1]), rate(1, 1), [1], [2, 3, 5, 8, 9])
        self.assert_tidied(Sealed([4]), rate(1, 1), [4], [0, 2, 3, 5, 9])
        self.assert_tidied(Sealed([1, 4]), rate(1, 1), [1, 4], [2, 3, 5, 9])
        self.assert_tidied(Sealed([1, 4, 6, 7]), rate(1, 1), [1, 4, 7], [2, 3, 5])
        self.assert_tidied(LastFew(1), rate(1, 1), [7], [0, 2, 3, 5])
        self.assert_tidied(LastFew(2), rate(1, 1), [4, 7], [0, 2, 3, 5])
        self.assert_tidied(OneOfEach(3), rate(1, 1), [1, 4, 7], [2, 3, 5])

    def test_by_a_cost(self):
        dear_whole = (lambda piece: 9 if piece.kind() == "whole" and piece.day == 4 else 1)
        self.assert_tidied(LastFew(1), dear_whole, [7], [3, 5, 8])
        self.assert_tidied(Sealed([4]), dear_whole, [4], [3, 5, 8, 9])
        self.assert_tidied(Sealed([4]), lambda piece: 0, [4], [0, 2, 3, 5, 9])

    def test_no_day_is_wanted(self):
        self.assert_tidied(Rule(), rate(1, 1), [], [0, 2, 3, 5, 8, 9])
        self.assert_tidied(Sealed([6, 3, 2]), rate(1, 1), [], [0, 2, 3, 5, 8, 9])

    def test_days_reached_over_bad_pieces_alone_are_wanted(self):
        shelf = shelf_with({3: Whole(2, [(0, 5)], 1), 4: Gain(2, 3, [(0, 6)], 1)})
        told = tidied(shelf, LastFew(5), rate(1, 1))
        self.assertEqual(told[1:], ([2, 3], []))
        self.assertEqual(lying_on(told[0]), lying_on(shelf))

    def test_an_empty_shelf(self):
        told = tidied(Shelf(), LastFew(3), rate(1, 1))
        self.assertEqual((lying_on(told[0]), told[1], told[2]), ((0, []), [], []))

    def test_the_new_shelf_and_the_old_one_have_nothing_in_common(self):
        for rule in (LastFew(9), LastFew(1), Rule()):
            shelf = self.shelf()
            told = tidied(shelf, rule, rate(1, 1))
            before = lying_on(told[0])
            shelf.drop(8)
            shelf.put(Whole(3, [(0, 0), (1, 0)]))
            self.assertEqual(lying_on(told[0]), before)
            before = lying_on(shelf)
            self.assertEqual(told[0].put(Whole(3, [(0, 0), (1, 1)])), 12)
            told[1].append(77)
            told[2].clear()
            self.assertEqual(lying_on(shelf), before)

    def test_laws_on_shelves_drawn(self):
        draw = Draw(57)
        for at in range(150):
            days = days_by_chance(draw, 3, 8) if at % 2 else None
            shelf = shelf_by_chance(draw, days)
            cost = rate(draw.randrange(3), draw.randrange(3))
            for rule in rules_drawn(draw):
                self.assert_laws(shelf, rule, cost)

    def assert_laws(self, shelf, rule, cost):
        before = lying_on(shelf)
        left, wanted, thrown = tidied(shelf, rule, cost)
        self.assertEqual(lying_on(shelf), before)
        self.assertEqual(wanted, rule.picks(reached(shelf)))
        self.assertEqual(sorted(left.numbers() + thrown), shelf.numbers())
        self.assertEqual(thrown, sorted(set(thrown)))
        self.assertEqual(left.following(), shelf.following())
        for number in left.numbers():
            self.assertEqual(told_of(left.piece(number)), told_of(shelf.piece(number)))
        old, new = legs_of(shelf, cost), legs_of(left, cost)
        for day in wanted:
            self.assertEqual(way_of(new, day), way_of(old, day))
            self.assertEqual(prices(new)[day], prices(old)[day])
        leading = [leg[2] for leg in new]
        self.assertEqual(len(leading), len(set(leading)))
        for leg in new:
            fewer = prices([other for other in new if other != leg])
            self.assertFalse(all(day in fewer for day in wanted))
        again, same, none = tidied(left, rule, cost)
        self.assertEqual((lying_on(again), same, none), (lying_on(left), wanted, []))


class AgainAndAgain(unittest.TestCase):
    def test_the_same_days_are_wanted_at_the_end(self):
        draw = Draw(58)
        thrown_in_all = 0
        for unused in range(60):
            days = days_by_chance(draw, 3, 14)
            cost = rate(draw.randrange(3), draw.randrange(3))
            for rule in rules_drawn(draw):
                often, never = Shelf(), Shelf()
                for day in range(days.last + 1):
                    for piece in self.pieces_of(draw, days, day, reached(often)):
                        often.put(piece)
                        never.put(piece)
                    if draw.randrange(2):
                        often, unused_days, thrown = tidied(often, rule, cost)
                        thrown_in_all += len(thrown)
                wanted = tidied(often, rule, cost)[1]
                self.assertEqual(wanted, tidied(never, rule, cost)[1])
                self.assertEqual(wanted, rule.picks(reached(never)))
        self.assertGreater(thrown_in_all, 1000)

    def pieces_of(self, draw, days, day, bases):
        some = []
        for unused in range(draw.randrange(3)):
            lower = [base for base in bases if base < day]
            piece = gain_of(days, draw.choice(lower), day) if lower and draw.randrange(4) else whole_of(days, day)
            if piece.size() and draw.randrange(4) == 0:
                piece = piece.harmed(draw.randrange(piece.size()), 1)
            some.append(piece)
        return some


if __name__ == "__main__":
    unittest.main()
