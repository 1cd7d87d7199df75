"""The refusals (point 4), each with the values that it was made with."""


class KeepError(ValueError):
    pass


class NoWord(KeepError):
    def __init__(self, word):
        self.word = word


class NoTable(KeepError):
    def __init__(self, wide):
        self.wide = wide


class NoPlace(KeepError):
    def __init__(self, place):
        self.place = place


class NoBlock(KeepError):
    def __init__(self, block):
        self.block = block


class NoDay(KeepError):
    def __init__(self, day):
        self.day = day


class NoBase(KeepError):
    def __init__(self, base, day):
        self.base = base
        self.day = day


class NoLine(KeepError):
    def __init__(self, line):
        self.line = line


class NoPiece(KeepError):
    def __init__(self, number):
        self.number = number


class NoWay(KeepError):
    def __init__(self, at):
        self.at = at


class BadPiece(KeepError):
    def __init__(self, day):
        self.day = day


class NoItem(KeepError):
    pass


class NoRule(KeepError):
    def __init__(self, found):
        self.found = found


class NoMerge(KeepError):
    def __init__(self, day, base):
        self.day = day
        self.base = base


class Lost(KeepError):
    def __init__(self, day, cuts):
        self.day = day
        self.cuts = cuts


class NoPlan(KeepError):
    def __init__(self, many):
        self.many = many


class NoShelf(KeepError):
    def __init__(self, shelf):
        self.shelf = shelf


class NoRow(KeepError):
    def __init__(self, line):
        self.line = line
