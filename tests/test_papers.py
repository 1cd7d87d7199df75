"""Points 44 to 46: papers, and what holds of them."""

import random
import unittest

from helping import all_ways_of_legs, legs_by_chance, price_by_sums

from keepsakes.least import prices, way_of
from keepsakes.papers import holds, paper

# The told way to day 4 is 1, 6, 5; day 7 has no way, and legs go round from 4 to 2.
LEGS = [(3, -1, 2, 0, 9), (1, -1, 1, 0, 2), (6, 1, 2, 0, 3), (5, 2, 4, 1, 4), (2, -1, 4, 1, 20), (8, 4, 2, 0, 0),
        (9, 7, 1, 0, 1), (4, 7, 8, 0, 1)]
WAY = [1, 6, 5]
ROWS = [(1, 0, 2, 1), (2, 0, 5, 2), (4, 1, 9, 3)]


def is_way_by_words(legs, way, day):
    by_number = {leg[0]: leg for leg in legs}
    if not way or any(number not in by_number for number in way):
        return False
    row = [by_number[number] for number in way]
    meets = all(one[2] == other[1] for one, other in zip(row, row[1:]))
    return meets and row[0][1] == -1 and row[-1][2] == day


def holds_by_words(legs, day, told):
    """Point 45, word by word."""
    way, rows = told
    days = [row[0] for row in rows]
    if any(one < 0 for one in days) or any(one >= other for one, other in zip(days, days[1:])):
        return False
    for number, start, to, bad, cost in legs:
        if start == -1 or start in days:
            if to not in days:
                return False
            ahead = (0, 0, 0) if start == -1 else rows[days.index(start)][1:]
            if rows[days.index(to)][1:] > (ahead[0] + bad, ahead[1] + cost, ahead[2] + 1):
                return False
    if way is None:
        return day not in days
    if not is_way_by_words(legs, way, day) or day not in days:
        return False
    by_number = {leg[0]: leg for leg in legs}
    return rows[days.index(day)][1:] == price_by_sums([by_number[number] for number in way])


def changed_by_chance(chance, told):
    way, rows = told
    way, rows = None if way is None else list(way), list(rows)
    for unused in range(chance.randrange(1, 3)):
        at = chance.randrange(len(rows)) if rows else 0
        deed = chance.randrange(8)
        if deed < 3 and rows:
            row = list(rows[at])
            row[chance.randrange(1, 4)] += chance.choice((-1, 1, -1, -2))
            rows[at] = tuple(row)
        elif deed == 3 and rows:
            rows.pop(at)
        elif deed == 4:
            rows = sorted(rows + [(chance.randrange(-1, 6), chance.randrange(2), chance.randrange(5), 1)])
        elif deed == 5 and way:
            way[chance.randrange(len(way))] = chance.randrange(30)
        elif deed == 6 and way:
            way.pop(chance.randrange(len(way)))
        elif deed == 7:
            way = None
    return (way, rows)


class Papers(unittest.TestCase):
    def test_with_a_way(self):
        self.assertEqual(paper(LEGS, 4), (WAY, ROWS))
        self.assertEqual(paper(LEGS, 1), ([1], ROWS))
        self.assertEqual(paper([(7, -1, 0, 1, 3)], 0), ([7], [(0, 1, 3, 1)]))

    def test_without_a_way(self):
        for day in (0, 3, 7, 8, 10 ** 9):
            self.assertEqual(paper(LEGS, day), (None, ROWS))
        self.assertEqual(paper([], 0), (None, []))
        self.assertIs(holds([], 0, (None, [])), True)

    def test_days_rise(self):
        legs = [(number, -1, day, 0, 1) for number, day in enumerate((9, 0, 10 ** 9, 4, 3))]
        self.assertEqual([row[0] for row in paper(legs, 3)[1]], [0, 3, 4, 9, 10 ** 9])

    def test_kinds(self):
        told = paper(LEGS, 4)
        self.assertEqual((type(told), type(told[0]), type(told[1])), (tuple, list, list))
        for row in told[1]:
            self.assertIs(type(row), tuple)
            self.assertEqual([type(number) for number in row], [int] * 4)

    def test_what_is_told_is_the_askers_own(self):
        legs = list(LEGS)
        told = paper(legs, 4)
        told[0].append(3)
        told[1].clear()
        self.assertEqual(paper(legs, 4), (WAY, ROWS))
        self.assertEqual(legs, LEGS)

    def test_it_holds(self):
        chance = random.Random(44)
        for unused in range(400):
            legs = legs_by_chance(chance)
            before = list(legs)
            priced = prices(legs)
            for day in range(6):
                told = paper(legs, day)
                rows = [(one,) + priced[one] for one in sorted(priced)]
                self.assertEqual(told, (way_of(legs, day), rows))
                self.assertIs(holds(legs, day, told), True)
                self.assertEqual(told, (way_of(legs, day), rows))
            self.assertEqual(legs, before)


class Holding(unittest.TestCase):
    def assert_holds(self, told, way, rows, legs=LEGS, day=4):
        handed = (None if way is None else list(way), list(rows))
        before = list(legs)
        self.assertIs(holds(legs, day, handed), told)
        self.assertIs(holds(list(reversed(legs)), day, handed), told)
        self.assertEqual(handed, (way, rows))
        self.assertEqual(legs, before)
        self.assertIs(holds_by_words(legs, day, handed), told)

    def with_row(self, at, row):
        return ROWS[:at] + [row] + ROWS[at + 1:]

    def test_the_paper_itself(self):
        self.assert_holds(True, WAY, ROWS)
        self.assert_holds(True, None, ROWS, day=7)
        self.assert_holds(True, None, ROWS, day=3)

    def test_a_row_left_out(self):
        for at in range(3):
            self.assert_holds(False, WAY, ROWS[:at] + ROWS[at + 1:])
        self.assert_holds(False, WAY, [])
        self.assert_holds(False, None, [])
        self.assert_holds(False, None, ROWS[:2])

    def test_rows_that_do_not_rise(self):
        for order in ((1, 0, 2), (0, 2, 1), (2, 1, 0), (1, 2, 0)):
            self.assert_holds(False, WAY, [ROWS[at] for at in order])

    def test_a_day_twice(self):
        for at in range(3):
            self.assert_holds(False, WAY, ROWS[:at] + [ROWS[at]] + ROWS[at:])
        self.assert_holds(False, WAY, ROWS[:1] + [(1, 0, 1, 1)] + ROWS[1:])

    def test_a_day_below_0(self):
        self.assert_holds(False, WAY, [(-1, 0, 0, 0)] + ROWS)
        self.assert_holds(False, WAY, [(-5, 9, 9, 9)] + ROWS)
        self.assert_holds(False, None, [(-1, 0, 0, 0)] + ROWS, day=7)
        self.assert_holds(False, None, [(-1, 0, 0, 0)], legs=[], day=7)

    def test_a_price_too_great(self):
        for at, row in enumerate(ROWS):
            for place in (1, 2, 3):
                self.assert_holds(False, WAY, self.with_row(at, row[:place] + (row[place] + 1,) + row[place + 1:]))

    def test_a_price_too_small(self):
        # Of day 4 the way has another price; from day 1 a leg would lead to day 2 at a lesser price than told.
        for at, row in enumerate(ROWS):
            for place in (1, 2, 3):
                self.assert_holds(False, WAY, self.with_row(at, row[:place] + (row[place] - 1,) + row[place + 1:]))

    def test_the_way_left_out(self):
        self.assert_holds(False, None, ROWS)
        self.assert_holds(False, None, ROWS, day=1)

    def test_an_empty_way(self):
        for day in (4, 7, 1):
            self.assert_holds(False, [], ROWS, day=day)
        self.assert_holds(False, [], [], legs=[], day=0)
        self.assert_holds(False, [], [(0, 0, 0, 0)], legs=[], day=0)

    def test_numbers_that_are_no_legs(self):
        for way in ([0], [-1], [1, 6, 7], [1, 7, 5], [7, 6, 5], [1, 6, 5, 10 ** 9]):
            self.assert_holds(False, way, ROWS)

    def test_legs_that_are_no_way(self):
        for way in ([6, 5], [5], [1, 5], [1, 6, 6, 5], [6, 1, 5], [3, 6, 5], [1, 3, 5], [9, 6, 5], [5, 6, 1]):
            self.assert_holds(False, way, ROWS)

    def test_a_way_that_leads_elsewhere(self):
        for way in ([1], [1, 6], [3], [1, 6, 5, 8]):
            self.assert_holds(False, way, ROWS)
        self.assert_holds(False, WAY, ROWS, day=2)
        self.assert_holds(False, WAY, ROWS, day=7)
        self.assert_holds(False, [1, 6, 5], ROWS, day=3)

    def test_a_way_to_another_day_of_the_same_price(self):
        legs = [(0, -1, 1, 0, 3), (1, -1, 2, 0, 3)]
        rows = [(1, 0, 3, 1), (2, 0, 3, 1)]
        self.assert_holds(True, [1], rows, legs=legs, day=2)
        self.assert_holds(False, [0], rows, legs=legs, day=2)
        self.assert_holds(False, [1], rows, legs=legs, day=1)

    def test_a_way_of_a_greater_price(self):
        for way in ([2], [3, 5], [1, 6, 5, 8, 5]):
            self.assert_holds(False, way, ROWS)
        # A row that tells the greater price is refuted by a leg.
        for price in ((4, 1, 20, 1), (4, 1, 13, 2), (4, 2, 13, 5)):
            for way in ([2], [3, 5], [1, 6, 5, 8, 5]):
                self.assert_holds(False, way, self.with_row(2, price))

    def test_another_way_of_the_same_price(self):
        legs = [(0, -1, 1, 0, 3), (1, -1, 1, 0, 3)]
        self.assert_holds(True, [0], [(1, 0, 3, 1)], legs=legs, day=1)
        self.assert_holds(True, [1], [(1, 0, 3, 1)], legs=legs, day=1)

    def test_none_where_there_is_a_row_for_the_day(self):
        rows = ROWS + [(7, 0, 50, 1), (8, 0, 51, 2)]
        self.assert_holds(False, None, rows, day=7)
        self.assert_holds(False, None, rows, day=8)
        self.assert_holds(True, None, rows, day=3)

    def test_rows_for_days_without_a_way(self):
        self.assert_holds(True, WAY, ROWS + [(8, 0, 0, 0)])
        self.assert_holds(True, WAY, ROWS + [(9, -4, -4, -4)])
        self.assert_holds(True, WAY, [(0, 5, 5, 5)] + ROWS)
        self.assert_holds(True, None, [(0, 5, 5, 5)] + ROWS, day=3)
        # From day 7 legs lead to the days 1 and 8: both need rows, with prices that are not greater.
        self.assert_holds(True, WAY, ROWS + [(7, 0, 1, 0), (8, 0, 2, 1)])
        self.assert_holds(True, WAY, ROWS + [(7, 0, 2, 0), (8, 0, 2, 1)])
        self.assert_holds(False, WAY, ROWS + [(7, 0, 1, 0)])
        self.assert_holds(False, WAY, ROWS + [(7, 0, 1, 0), (8, 0, 2, 2)])
        self.assert_holds(False, WAY, ROWS + [(7, 0, 1, -1), (8, 0, 0, 0)])
        self.assert_holds(False, WAY, ROWS + [(7, 0, 0, 9), (8, 0, 0, 0)])

    def test_lesser_prices(self):
        legs = [(0, -1, 1, 0, 5), (1, -1, 2, 0, 1), (2, 1, 2, 0, 0)]
        for price in ((0, 5, 1), (0, 3, 7), (0, 1, 0), (0, 2, -8)):
            self.assert_holds(True, [1], [(1,) + price, (2, 0, 1, 1)], legs=legs, day=2)
        for price in ((0, 1, -1), (0, 0, 9), (-1, 7, 7), (0, 5, 2), (0, 6, 0), (1, 0, 0)):
            self.assert_holds(False, [1], [(1,) + price, (2, 0, 1, 1)], legs=legs, day=2)

    def test_a_way_that_comes_to_a_day_twice(self):
        legs = [(0, -1, 1, 0, 0), (1, 1, 2, 0, 0), (2, 2, 1, 0, 0)]
        self.assert_holds(True, [0, 1], [(1, 0, 0, 1), (2, 0, 0, 2)], legs=legs, day=2)
        self.assert_holds(False, [0, 1, 2, 1], [(1, 0, 0, 1), (2, 0, 0, 2)], legs=legs, day=2)
        self.assert_holds(False, [0, 1, 2, 1], [(1, 0, 0, 1), (2, 0, 0, 4)], legs=legs, day=2)

    def test_great_numbers(self):
        great = 10 ** 59
        self.assert_holds(False, WAY, self.with_row(2, (4, great, great, great)))
        self.assert_holds(False, WAY, self.with_row(2, (4, -great, great, great)))
        self.assert_holds(True, WAY, ROWS + [(great, -great, great, great)])
        self.assert_holds(False, [great], ROWS)

    def test_papers_by_chance(self):
        chance = random.Random(45)
        held = {True: 0, False: 0}
        for unused in range(3000):
            legs = legs_by_chance(chance)
            day = chance.randrange(5)
            told = changed_by_chance(chance, paper(legs, day))
            found = holds(legs, day, told)
            self.assertIs(found, holds_by_words(legs, day, told))
            held[found] += 1
            if found:
                self.assert_least(legs, day, told[0])
        self.assertGreater(min(held.values()), 300)

    def assert_least(self, legs, day, way):
        """Point 46: what a paper shows that holds."""
        ways = all_ways_of_legs(legs).get(day, [])
        if way is None:
            self.assertEqual(ways, [])
        else:
            by_number = {leg[0]: leg for leg in legs}
            self.assertEqual(price_by_sums([by_number[number] for number in way]), min(map(price_by_sums, ways)))


if __name__ == "__main__":
    unittest.main()
