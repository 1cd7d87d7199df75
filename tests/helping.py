"""What several tests ask for: refusals, what is told of pieces and shelves, and days, shelves, legs and tasks drawn."""

import unittest

from keepsakes.days import Days
from keepsakes.pieces import Gain, Whole, gain_of, whole_of
from keepsakes.shelves import Shelf
from keepsakes.tasks import Task

W = 18446744073709551615


class Draw:
    """Numbers drawn by plain arithmetic, asked for as a random.Random is."""

    def __init__(self, seed):
        self.state = seed

    def randrange(self, low, above=None):
        self.state = (self.state * 6364136223846793005 + 1442695040888963407) % 2 ** 64
        drawn = self.state >> 20
        return drawn % low if above is None else low + drawn % (above - low)

    def choice(self, things):
        return things[self.randrange(len(things))]

    def sample(self, things, many):
        left = list(things)
        return [left.pop(self.randrange(len(left))) for unused in range(many)]


class Refusing(unittest.TestCase):
    def assert_refused(self, error, asked, *values):
        with self.assertRaises(type(error)) as caught:
            asked(*values)
        self.assertIs(type(caught.exception), type(error))
        self.assertEqual(vars(caught.exception), vars(error))


def told_of(piece):
    return (piece.kind(), piece.start(), piece.day, piece.rows, piece.check)


def lying_on(shelf):
    return (shelf.following(), [(number, told_of(shelf.piece(number))) for number in shelf.numbers()])


def shelf_with(pieces):
    shelf = Shelf()
    for number, piece in pieces.items():
        shelf.lay(number, piece)
    return shelf


def days_by_chance(chance, wide, many):
    days = Days(wide)
    for unused in range(many):
        changes = [(chance.randrange(wide), chance.choice((0, 1, W, chance.randrange(W + 1))))
                   for unused_too in range(chance.randrange(4))]
        # A block that is set to what it was counts as written, so this must come up often.
        if chance.randrange(3) == 0:
            place = chance.randrange(wide)
            changes.append((place, days.table(days.last)[place]))
        days.passes(changes)
    return days


def shelf_by_chance(chance, days=None):
    shelf = Shelf()
    last = days.last if days else 7
    for unused in range(chance.randrange(13)):
        day = chance.randrange(last + 1)
        if day == 0 or chance.randrange(4) == 0:
            piece = whole_of(days, day) if days else Whole(day, [(0, chance.randrange(9))])
        else:
            base = chance.randrange(day)
            piece = gain_of(days, base, day) if days else Gain(base, day, [(0, chance.randrange(9))])
        if piece.size() and chance.randrange(4) == 0:
            piece = piece.harmed(chance.randrange(piece.size()), chance.randrange(1, W + 1))
        shelf.lay(chance.randrange(40), piece)
    return shelf


def legs_by_chance(chance):
    """Few legs between few days at small costs, so that rings and equal prices come up often."""
    legs = []
    for number in chance.sample(range(30), chance.randrange(8)):
        day = chance.randrange(4)
        start = chance.choice([-1] + [other for other in range(4) if other != day])
        legs.append((number, start, day, chance.choice((0, 0, 1)), chance.randrange(3)))
    return legs


def price_by_sums(way):
    return (sum(leg[3] for leg in way), sum(leg[4] for leg in way), len(way))


def all_ways_of_legs(legs, most=6):
    """Every way of at most so many legs, as a list of legs, by the day to which it leads."""
    found = {}
    rows = [[leg] for leg in legs if leg[1] == -1]
    while rows:
        way = rows.pop()
        found.setdefault(way[-1][2], []).append(way)
        if len(way) < most:
            rows.extend(way + [leg] for leg in legs if leg[1] == way[-1][2])
    return found


def told_by_definition(legs):
    """The prices, last legs and told ways as point 6 says them, over all ways counted one by one."""
    priced = {day: min(map(price_by_sums, ways)) for day, ways in all_ways_of_legs(legs).items()}
    last = {}
    for day in priced:
        fitting = []
        for leg in legs:
            start = (0, 0, 0) if leg[1] == -1 else priced.get(leg[1])
            if leg[2] == day and start and (start[0] + leg[3], start[1] + leg[4], start[2] + 1) == priced[day]:
                fitting.append(leg)
        last[day] = min(fitting)

    def told_way(day):
        start = last[day][1]
        return ([] if start == -1 else told_way(start)) + [last[day][0]]

    return (priced, {day: last[day][0] for day in priced}, {day: told_way(day) for day in priced})


def priced_in_rounds(legs):
    """The prices of all days, by going over all legs again and again until nothing gets less."""
    found, before = {-1: (0, 0, 0)}, None
    while found != before:
        before = dict(found)
        for number, start, day, bad, cost in legs:
            if start in found:
                price = (found[start][0] + bad, found[start][1] + cost, found[start][2] + 1)
                found[day] = min(price, found.get(day, price))
    found.pop(-1)
    return found


def sizes_drawn(draw, many, most):
    return [[draw.randrange(most + 1) for unused in range(day + 1)] for day in range(many)]


def task_drawn(draw, many, most=6):
    weights = [draw.choice((0, 0, 1, draw.randrange(most + 1))) for unused in range(many)]
    return Task(sizes_drawn(draw, many, most), weights, [draw.randrange(4) for unused in range(4)])


def words_allowed(weight, ahead):
    """Point 81, word by word."""
    words = []
    if weight == 0:
        words.append("none")
    words.append("whole")
    if ahead.count("whole") > 0:
        words.append("since")
    if len(ahead) > ahead.count("none"):
        words.append("last")
    return words


def beginnings_of(task, ahead=()):
    """All beginnings that go on from one, itself too, in the order of point 84."""
    found = [ahead]
    if len(ahead) < len(task.sizes):
        for word in words_allowed(task.weights[len(ahead)], ahead):
            found.extend(beginnings_of(task, ahead + (word,)))
    return found


def plans_of(task):
    return [choices for choices in beginnings_of(task) if len(choices) == len(task.sizes)]


def base_by_words(choices, day):
    at = day - 1
    while choices[at] == "none" or (choices[day] == "since" and choices[at] != "whole"):
        at -= 1
    return at


def size_by_words(task, choices, day):
    if choices[day] == "whole":
        return task.sizes[day][0]
    return task.sizes[day][1 + base_by_words(choices, day)]


def way_by_words(task, choices, day):
    make, hold, seek, each = task.rates
    cost = seek + each * size_by_words(task, choices, day)
    if choices[day] != "whole":
        cost += way_by_words(task, choices, base_by_words(choices, day))
    return cost


def day_by_words(task, choices, day):
    make, hold, seek, each = task.rates
    if choices[day] == "none":
        return 0
    return ((make + hold * (len(task.sizes) - day)) * size_by_words(task, choices, day)
            + task.weights[day] * way_by_words(task, choices, day))


def cost_by_words(task, choices):
    """Point 82, word by word."""
    return sum(day_by_words(task, choices, day) for day in range(len(choices)))


def bound_by_words(task, choices):
    """Point 83, word by word."""
    make, hold, seek, each = task.rates
    many = len(task.sizes)
    bound = cost_by_words(task, choices)
    for day in range(len(choices), many):
        least = sorted(task.sizes[day])[0]
        if task.weights[day] > 0:
            bound += (make + hold * (many - day)) * least + task.weights[day] * (seek + each * least)
    return bound
