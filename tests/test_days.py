"""Points 11 to 14, and 2 and 4 where they bear on a row of days."""

import random
import unittest

from helping import Refusing, W

from keepsakes.days import Days
from keepsakes.errors import NoBlock, NoDay, NoPlace, NoTable


def all_told(days):
    numbers = range(days.last + 1)
    tables = [days.table(day) for day in numbers]
    places = [[days.written(one, other) for one in numbers] for other in numbers]
    return (days.wide, days.last, tables, places)


class Wide(Refusing):
    def test_each_number_of_blocks(self):
        for wide in range(1, 41):
            days = Days(wide)
            self.assertEqual((days.wide, days.last), (wide, 0))
            self.assertEqual(days.table(0), [0] * wide)

    def test_no_table(self):
        for wide in (0, 41, -1, -40, 42, 10 ** 30, -(10 ** 30), 2 ** 64, 10 ** 5000, -(10 ** 5000)):
            self.assert_refused(NoTable(wide), Days, wide)

    def test_two_rows_have_nothing_in_common(self):
        one, other = Days(2), Days(2)
        one.passes([(0, 5)])
        self.assertEqual(all_told(other), all_told(Days(2)))


class Passing(Refusing):
    def test_days_are_numbered_in_a_row(self):
        days = Days(1)
        for day in range(1, 301):
            self.assertEqual(days.passes([(0, day)]), day)
            self.assertEqual(days.last, day)

    def test_a_day_without_changes(self):
        days = Days(3)
        days.passes([(1, 7)])
        self.assertEqual(days.passes([]), 2)
        self.assertEqual(days.table(2), [0, 7, 0])
        self.assertEqual(days.written(1, 2), [])

    def test_blocks_are_set_at_their_places(self):
        days = Days(4)
        days.passes([(3, W), (0, 1)])
        days.passes([(0, 0), (2, 9)])
        self.assertEqual(days.table(1), [1, 0, 0, W])
        self.assertEqual(days.table(2), [0, 0, 9, W])

    def test_the_last_change_for_a_place_holds(self):
        days = Days(2)
        days.passes([(1, 5), (0, 2), (1, 9), (1, 3)])
        self.assertEqual(days.table(1), [2, 3])
        days.passes([(1, 8), (1, 3)])
        self.assertEqual(days.table(2), [2, 3])

    def test_ninety_changes_at_the_widest(self):
        days = Days(40)
        days.passes([(k % 40, k) for k in range(90)])
        self.assertEqual(days.table(1), [k + 80 for k in range(10)] + [k + 40 for k in range(10, 40)])

    def test_no_place(self):
        for wide in (1, 3, 40):
            days = Days(wide)
            for place in (-1, wide, -wide, wide + 1, -(10 ** 30), 10 ** 30):
                self.assert_refused(NoPlace(place), days.passes, [(place, 0)])

    def test_no_block(self):
        days = Days(3)
        for block in (-1, W + 1, -(10 ** 30), 10 ** 30, -W):
            self.assert_refused(NoBlock(block), days.passes, [(2, block)])
        days.passes([(0, 0), (1, W)])
        self.assertEqual(days.table(1), [0, W, 0])

    def test_place_ahead_of_block(self):
        days = Days(3)
        self.assert_refused(NoPlace(3), days.passes, [(3, -1)])
        self.assert_refused(NoPlace(-1), days.passes, [(0, 1), (-1, W + 1), (7, 0)])

    def test_the_first_change_at_fault(self):
        days = Days(3)
        self.assert_refused(NoBlock(-5), days.passes, [(0, -5), (9, 0)])
        self.assert_refused(NoPlace(9), days.passes, [(1, 1), (9, 0), (0, -5)])
        self.assert_refused(NoBlock(W + 2), days.passes, [(1, W + 2), (1, W + 1), (1, 1)])
        self.assert_refused(NoPlace(5), days.passes, [(0, 0), (5, 0), (4, 0)])

    def test_a_refusal_changes_nothing(self):
        days = Days(3)
        days.passes([(0, 4)])
        before = all_told(days)
        for changes in ([(0, 9), (3, 0)], [(0, 9), (1, -1)], [(2, 1), (-1, 0)], [(2, 1), (2, W + 1)]):
            handed = list(changes)
            with self.assertRaises((NoPlace, NoBlock)):
                days.passes(handed)
            self.assertEqual(handed, changes)
            self.assertEqual(all_told(days), before)
            self.assert_refused(NoDay(2), days.table, 2)
        self.assertEqual(days.passes([(1, 6)]), 2)
        self.assertEqual(days.table(2), [4, 6, 0])
        self.assertEqual(days.written(0, 2), [0, 1])


class Tables(Refusing):
    def test_no_day(self):
        days = Days(2)
        for passed in range(3):
            for day in (-1, passed + 1, -2, -passed - 1, 10 ** 30, -(10 ** 30)):
                self.assert_refused(NoDay(day), days.table, day)
            days.passes([])

    def test_tables_stay_the_same(self):
        days = Days(5)
        told = [days.table(0)]
        for day in range(1, 301):
            days.passes([(day % 5, day)])
            told.append(days.table(day))
        self.assertEqual([days.table(day) for day in range(301)], told)
        self.assertEqual(told[0], [0] * 5)
        self.assertEqual(told[7], [5, 6, 7, 3, 4])

    def test_a_told_list_is_the_askers_own(self):
        days = Days(3)
        days.passes([(0, 1), (2, 3)])
        before = all_told(days)
        for day in (0, 1):
            days.table(day)[0] = 99
            days.table(day).append(7)
        days.written(0, 1).append(1)
        days.written(1, 0).clear()
        self.assertEqual(all_told(days), before)
        days.passes([])
        self.assertEqual(days.table(2), [1, 0, 3])

    def test_a_handed_list_stays_the_askers(self):
        days = Days(3)
        changes = [(2, 3), (0, 1), (2, 4)]
        days.passes(changes)
        self.assertEqual(changes, [(2, 3), (0, 1), (2, 4)])
        before = all_told(days)
        changes[0] = (1, 8)
        changes.append((1, 9))
        self.assertEqual(all_told(days), before)
        changes.clear()
        self.assertEqual(all_told(days), before)
        self.assertEqual(days.written(0, 1), [0, 2])


class Written(Refusing):
    def test_between_a_day_and_itself(self):
        days = Days(2)
        days.passes([(0, 1), (1, 1)])
        self.assertEqual(days.written(0, 0), [])
        self.assertEqual(days.written(1, 1), [])

    def test_behind_the_earlier_up_to_the_later(self):
        days = Days(5)
        days.passes([(4, 1)])
        days.passes([(2, 1)])
        days.passes([(3, 1), (0, 1)])
        self.assertEqual(days.written(0, 1), [4])
        self.assertEqual(days.written(1, 2), [2])
        self.assertEqual(days.written(1, 3), [0, 2, 3])
        self.assertEqual(days.written(0, 3), [0, 2, 3, 4])
        self.assertEqual(days.written(3, 0), [0, 2, 3, 4])
        self.assertEqual(days.written(3, 1), [0, 2, 3])
        self.assertEqual(days.written(2, 1), [2])

    def test_a_block_set_to_what_it_was(self):
        days = Days(3)
        days.passes([(1, 0)])
        self.assertEqual(days.table(1), days.table(0))
        self.assertEqual(days.written(0, 1), [1])
        days.passes([(2, 5), (2, 0)])
        self.assertEqual(days.written(1, 2), [2])

    def test_rising_and_each_once(self):
        days = Days(40)
        days.passes([(39, 1), (3, 1), (39, 2), (17, 1), (3, 1), (33, 1)])
        days.passes([(17, 1), (2, 1), (39, 1)])
        self.assertEqual(days.written(0, 1), [3, 17, 33, 39])
        self.assertEqual(days.written(2, 0), [2, 3, 17, 33, 39])

    def test_no_day_of_one_ahead_of_other(self):
        days = Days(2)
        days.passes([])
        self.assert_refused(NoDay(2), days.written, 2, 0)
        self.assert_refused(NoDay(2), days.written, 0, 2)
        self.assert_refused(NoDay(-1), days.written, -1, 1)
        self.assert_refused(NoDay(-1), days.written, 1, -1)
        self.assert_refused(NoDay(9), days.written, 9, -3)
        self.assert_refused(NoDay(-3), days.written, -3, 9)
        self.assert_refused(NoDay(10 ** 30), days.written, 10 ** 30, 10 ** 31)
        self.assert_refused(NoDay(5), days.written, 5, 5)


class LongRows(unittest.TestCase):
    def test_rows_by_chance(self):
        chance = random.Random(12)
        for wide in (1, 2, 7, 40):
            days = Days(wide)
            table = [0] * wide
            tables, places = [list(table)], [set()]
            for day in range(1, 61):
                changes = [(chance.randrange(wide), chance.choice((0, 1, W, chance.randrange(W))))
                           for unused in range(chance.randrange(6))]
                for place, block in changes:
                    table[place] = block
                tables.append(list(table))
                places.append({place for place, block in changes})
                self.assertEqual(days.passes(changes), day)
            for one in range(61):
                self.assertEqual(days.table(one), tables[one])
                for other in range(one, 61):
                    written = sorted(set().union(*places[one + 1:other + 1]))
                    self.assertEqual(days.written(one, other), written)
                    self.assertEqual(days.written(other, one), written)


if __name__ == "__main__":
    unittest.main()
