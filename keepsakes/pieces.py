"""Pieces, which keep blocks as they are on a day: whole ones and gains (points 22 to 27)."""

from keepsakes.checks import check_of
from keepsakes.errors import NoBase, NoPlace


class Piece:
    def __init__(self, start, day, rows, check):
        self.day = day
        self.rows = tuple([(place, block) for place, block in rows])
        fitting = check_of(start, day, self.rows)
        self.check = fitting if check is None else check
        # Whether it is good is asked again and again, and nothing of a piece ever changes.
        self.fits = self.check == fitting

    def size(self):
        return len(self.rows)

    def is_good(self):
        return self.fits

    def harmed(self, at, bits):
        # A row below 0 would be counted from the end, and isn't there all the same.
        if at < 0 or at >= len(self.rows):
            raise NoPlace(at)
        rows = list(self.rows)
        row = rows[at]
        rows[at] = (row[0], row[1] ^ bits)
        return self.with_rows(rows)


class Whole(Piece):
    def __init__(self, day, rows, check=None):
        Piece.__init__(self, -1, day, rows, check)

    def start(self):
        return -1

    def kind(self):
        return "whole"

    def laid(self, table):
        return [block for place, block in self.rows]

    def with_rows(self, rows):
        return Whole(self.day, rows, self.check)


class Gain(Piece):
    def __init__(self, base, day, rows, check=None):
        Piece.__init__(self, base, day, rows, check)
        self.base = base

    def start(self):
        return self.base

    def kind(self):
        return "gain"

    def laid(self, table):
        blocks = list(table)
        for place, block in self.rows:
            blocks[place] = block
        return blocks

    def with_rows(self, rows):
        return Gain(self.base, self.day, rows, self.check)


def whole_of(days, day):
    return Whole(day, list(enumerate(days.table(day))))


def gain_of(days, base, day):
    # The row of days refuses the base ahead of the day, as is asked for here.
    places = days.written(base, day)
    if base >= day:
        raise NoBase(base, day)
    table = days.table(day)
    return Gain(base, day, [(place, table[place]) for place in places])
