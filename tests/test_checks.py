"""Points 20 and 21: turning and checks."""

import random
import unittest

from keepsakes.checks import check_of, turned

W = 18446744073709551615


def turned_by_bits(number):
    bits = format(number, "064b")
    return int(bits[7:] + bits[:7], 2)


def check_by_bits(numbers):
    check = 0
    for number in numbers:
        check = turned_by_bits(check) ^ number
    return check


class Turning(unittest.TestCase):
    def test_edges(self):
        self.assertEqual(turned(0), 0)
        self.assertEqual(turned(1), 128)
        self.assertEqual(turned(2 ** 56), 2 ** 63)
        self.assertEqual(turned(2 ** 57), 1)
        self.assertEqual(turned(2 ** 57 - 1), W - 127)
        self.assertEqual(turned(2 ** 63), 64)
        self.assertEqual(turned(W), W)
        self.assertEqual(turned(W - 1), W - 128)

    def test_each_bit_alone(self):
        for place in range(64):
            self.assertEqual(turned(2 ** place), 2 ** ((place + 7) % 64))

    def test_sixty_four_times(self):
        chance = random.Random(20)
        for number in [0, 1, 2 ** 57, W, 5 * 2 ** 60 + 3] + [chance.randrange(W + 1) for unused in range(50)]:
            once = turned(number)
            self.assertEqual(once, turned_by_bits(number))
            again = number
            for unused in range(64):
                again = turned(again)
                self.assertTrue(0 <= again <= W)
            self.assertEqual(again, number)


class Checks(unittest.TestCase):
    def test_without_rows(self):
        self.assertEqual(check_of(-1, 0, []), 0)
        self.assertEqual(check_of(-1, 5, []), 5)
        self.assertEqual(check_of(0, 0, []), 128)
        self.assertEqual(check_of(3, 6, ()), 4 * 128 ^ 6)

    def test_written_out(self):
        self.assertEqual(check_of(-1, 1, [(0, 3)]), 128 * 128 ^ 3)
        self.assertEqual(check_of(0, 1, [(2, 3)]), (((128 ^ 1) * 128 ^ 2) * 128) ^ 3)
        self.assertEqual(check_of(-1, 0, [(0, W)]), W)
        self.assertEqual(check_of(-1, 0, [(0, 2 ** 57), (0, 0)]), 128)

    def test_the_order_of_rows_counts(self):
        self.assertNotEqual(check_of(-1, 0, [(0, 1), (1, 2)]), check_of(-1, 0, [(1, 2), (0, 1)]))

    def test_rows_as_a_list_and_as_a_tuple(self):
        rows = [(0, 17), (3, W), (39, 2 ** 57)]
        for start in (-1, 0, 9, 10 ** 9):
            self.assertEqual(check_of(start, 10, rows), check_of(start, 10, tuple(rows)))
        self.assertEqual(rows, [(0, 17), (3, W), (39, 2 ** 57)])

    def test_against_bits(self):
        chance = random.Random(21)
        for many in range(41):
            start = chance.choice((-1, 0, chance.randrange(300), 10 ** 9 - 1))
            day = chance.choice((0, chance.randrange(301), 10 ** 9))
            rows = [(place, chance.choice((0, W, chance.randrange(W + 1)))) for place in range(many)]
            numbers = [start + 1, day] + [number for row in rows for number in row]
            check = check_of(start, day, rows)
            self.assertEqual(check, check_by_bits(numbers))
            self.assertTrue(0 <= check <= W)

    def test_one_number_changed(self):
        rows = [(0, 17), (1, W), (2, 0), (3, 2 ** 63)]
        told = check_of(4, 9, rows)
        for other in (-1, 0, 3, 5, 10 ** 9):
            self.assertNotEqual(check_of(other, 9, rows), told)
        for other in (0, 8, 10, 10 ** 9):
            self.assertNotEqual(check_of(4, other, rows), told)
        for at, (place, block) in enumerate(rows):
            for other in range(40):
                if other != place:
                    self.assertNotEqual(check_of(4, 9, rows[:at] + [(other, block)] + rows[at + 1:]), told)
            for bit in range(64):
                changed = rows[:at] + [(place, block ^ 2 ** bit)] + rows[at + 1:]
                self.assertNotEqual(check_of(4, 9, changed), told)

    def test_rows_stay_as_they_were(self):
        rows = [(1, 2), (3, 4)]
        check_of(0, 1, rows)
        self.assertEqual(rows, [(1, 2), (3, 4)])
        before = check_of(0, 1, rows)
        rows.append((5, 6))
        self.assertEqual(check_of(0, 1, [(1, 2), (3, 4)]), before)


if __name__ == "__main__":
    unittest.main()
