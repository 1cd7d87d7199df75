"""A row of days and their tables (points 11 to 14)."""

from keepsakes.bounds import MOST_BLOCKS, W
from keepsakes.errors import NoBlock, NoDay, NoPlace, NoTable


class Days:
    def __init__(self, wide):
        ask_wide(wide)
        self.wide = wide
        self.last = 0
        self.tables = [[0] * wide]
        self.set_places = [[]]

    def passes(self, changes):
        # All changes are asked ahead of the first step, so that a refusal leaves no day begun.
        for place, block in changes:
            self.ask_change(place, block)
        table = list(self.tables[self.last])
        for place, block in changes:
            table[place] = block
        self.tables.append(table)
        self.set_places.append([place for place, block in changes])
        self.last = self.last + 1
        return self.last

    def table(self, day):
        self.ask_day(day)
        return list(self.tables[day])

    def written(self, one, other):
        self.ask_day(one)
        self.ask_day(other)
        places = []
        for day in range(min(one, other) + 1, max(one, other) + 1):
            places.extend(self.set_places[day])
        return sorted(set(places))

    def ask_change(self, place, block):
        if place < 0 or place >= self.wide:
            raise NoPlace(place)
        if block < 0 or block > W:
            raise NoBlock(block)

    def ask_day(self, day):
        if day < 0 or day > self.last:
            raise NoDay(day)


def ask_wide(wide):
    if wide < 1 or wide > MOST_BLOCKS:
        raise NoTable(wide)
