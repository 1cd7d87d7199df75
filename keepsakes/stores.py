"""A store: a row of days and three shelves, two of which lag behind (points 90 to 97)."""

from keepsakes.days import Days
from keepsakes.errors import NoBase, NoDay, NoShelf, NoWord
from keepsakes.least import legs_of, rate
from keepsakes.mending import healed, joined, rescued
from keepsakes.merging import folded, merged
from keepsakes.pieces import gain_of, whole_of
from keepsakes.rules import AnyOf, Sealed
from keepsakes.shelves import Shelf
from keepsakes.tidy import tidied
from keepsakes.ways import reached


class Store:
    def __init__(self, wide, rule, seek, each):
        self.days = Days(wide)
        self.rule = rule
        self.seek = seek
        self.each = each
        self.shelves = [Shelf(), Shelf(), Shelf()]
        self.noted = []
        self.done = [0, 0, 0]
        self.seals = {}

    def passes(self, changes):
        return self.days.passes(changes)

    def today(self):
        return self.days.last

    def keep(self, word):
        piece = self.new_piece(word)
        number = self.shelves[0].following()
        self.note(("put", piece))
        return number

    def seal(self, day):
        if day not in reached(self.shelves[0]):
            raise NoDay(day)
        self.seals[day] = True

    def tidy(self):
        rule = AnyOf([self.rule, Sealed(list(self.seals))])
        told = tidied(self.shelves[0], rule, self.cost_of_pieces())
        folds = folded(told[0], told[1])[1]
        for number in told[2]:
            self.note(("drop", number))
        for one, other, new in folds:
            self.fold(one, other)
        return (told[1], told[2], folds)

    def carry(self, shelf, many):
        self.ask_shelf(shelf)
        mark = self.done[shelf]
        next_ones = self.noted[mark:mark + many]
        for deed in next_ones:
            do_deed(self.shelves[shelf], deed)
        self.done[shelf] = mark + len(next_ones)
        return len(next_ones)

    def deeds(self):
        return len(self.noted)

    def marks(self):
        return tuple(self.done)

    def numbers(self, shelf):
        self.ask_shelf(shelf)
        return self.shelves[shelf].numbers()

    def piece(self, shelf, number):
        self.ask_shelf(shelf)
        return self.shelves[shelf].piece(number)

    def harm(self, shelf, number, at, bits):
        harmed_piece = self.piece(shelf, number).harmed(at, bits)
        self.shelves[shelf].lay(number, harmed_piece)

    def heal(self, shelf, other):
        self.ask_shelf(shelf)
        self.ask_shelf(other)
        told = healed(self.shelves[shelf], self.shelves[other])
        self.shelves[shelf] = told[0]
        return told[1]

    def reach(self, shelf):
        self.ask_shelf(shelf)
        return max(reached(self.shelves[shelf], True), default=None)

    def legs(self, some=None):
        return legs_of(self.together(some), self.cost_of_pieces())

    def fetch(self, day, some=None):
        return rescued(self.together(some), self.cost_of_pieces(), day)

    def ask_shelf(self, shelf):
        # A shelf below 0 would be counted from the end, and isn't there all the same.
        if shelf < 0 or shelf >= len(self.shelves):
            raise NoShelf(shelf)

    def cost_of_pieces(self):
        return rate(self.seek, self.each)

    def new_piece(self, word):
        if word == "whole":
            return whole_of(self.days, self.today())
        return gain_of(self.days, self.base_for(word), self.today())

    def base_for(self, word):
        if word == "since":
            base = self.shelves[0].last_whole()
        elif word == "last":
            base = self.reach(0)
        else:
            raise NoWord(word)
        # A base that is today is refused where the gain is made.
        if base is None:
            raise NoBase(base, self.today())
        return base

    def note(self, deed):
        self.noted.append(deed)
        # Shelf 0 never lags, so this is the very deed that it does.
        self.carry(0, 1)

    def fold(self, one, other):
        self.note(("put", merged(self.piece(0, one), self.piece(0, other))))
        self.note(("drop", one))
        self.note(("drop", other))

    def together(self, some):
        numbers = list(range(len(self.shelves))) if some is None else some
        for number in numbers:
            self.ask_shelf(number)
        return joined([self.shelves[number] for number in numbers])


def do_deed(shelf, deed):
    if deed[0] == "put":
        shelf.put(deed[1])
    else:
        shelf.drop(deed[1])
