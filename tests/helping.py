"""What several tests ask for: refusals, what is told of pieces and shelves, and rows of days by chance."""

import unittest

from keepsakes.days import Days

W = 18446744073709551615


class Refusing(unittest.TestCase):
    def assert_refused(self, error, asked, *values):
        with self.assertRaises(type(error)) as caught:
            asked(*values)
        self.assertIs(type(caught.exception), type(error))
        self.assertEqual(vars(caught.exception), vars(error))


def told_of(piece):
    return (piece.kind(), piece.start(), piece.day, piece.rows, piece.check)


def lying_on(shelf):
    return (shelf.following(), [(number, told_of(shelf.piece(number))) for number in shelf.numbers()])


def days_by_chance(chance, wide, many):
    days = Days(wide)
    for unused in range(many):
        changes = [(chance.randrange(wide), chance.choice((0, 1, W, chance.randrange(W + 1))))
                   for unused_too in range(chance.randrange(4))]
        # A block that is set to what it was counts as written, so this must come up often.
        if chance.randrange(3) == 0:
            place = chance.randrange(wide)
            changes.append((place, days.table(days.last)[place]))
        days.passes(changes)
    return days


def legs_by_chance(chance):
    """Few legs between few days at small costs, so that rings and equal prices come up often."""
    legs = []
    for number in chance.sample(range(30), chance.randrange(8)):
        day = chance.randrange(4)
        start = chance.choice([-1] + [other for other in range(4) if other != day])
        legs.append((number, start, day, chance.choice((0, 0, 1)), chance.randrange(3)))
    return legs


def price_by_sums(way):
    return (sum(leg[3] for leg in way), sum(leg[4] for leg in way), len(way))


def all_ways_of_legs(legs, most=6):
    """Every way of at most so many legs, as a list of legs, by the day to which it leads."""
    found = {}
    rows = [[leg] for leg in legs if leg[1] == -1]
    while rows:
        way = rows.pop()
        found.setdefault(way[-1][2], []).append(way)
        if len(way) < most:
            rows.extend(way + [leg] for leg in legs if leg[1] == way[-1][2])
    return found
