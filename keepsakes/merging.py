"""Merging pieces, so that fewer lie on a shelf (points 60 to 64)."""

from keepsakes.errors import BadPiece, NoMerge
from keepsakes.pieces import Gain, Whole


def merged(first, second):
    # A whole piece starts at -1, which is no piece's day, so it never meets.
    if second.start() != first.day:
        raise NoMerge(first.day, second.start())
    for piece in (first, second):
        if not piece.is_good():
            raise BadPiece(piece.day)
    blocks = dict(first.rows)
    blocks.update(dict(second.rows))
    rows = [(place, blocks[place]) for place in sorted(blocks)]
    if first.kind() == "whole":
        return Whole(second.day, rows)
    return Gain(first.base, second.day, rows)


def folded(shelf, wanted):
    left = shelf.copied()
    folds = []
    # A fold leaves every other day as ready, or as far from it, as it was, so these are all the days there will be.
    for day in ready_days(shelf, wanted):
        folds.append(fold_at(left, day))
    return (left, folds)


def ready_days(shelf, wanted):
    leading = {}
    starting = {}
    for number in shelf.numbers():
        piece = shelf.piece(number)
        leading.setdefault(piece.day, []).append(piece)
        starting.setdefault(piece.start(), []).append(piece)
    unwanted = [day for day in sorted(leading) if day not in wanted]
    return [day for day in unwanted if is_one_good(leading[day]) and is_one_good(starting.get(day, []))]


def is_one_good(pieces):
    return len(pieces) == 1 and pieces[0].is_good()


def fold_at(shelf, day):
    numbers = shelf.numbers()
    one = [number for number in numbers if shelf.piece(number).day == day][0]
    other = [number for number in numbers if shelf.piece(number).start() == day][0]
    new = shelf.put(merged(shelf.piece(one), shelf.piece(other)))
    shelf.drop(one)
    shelf.drop(other)
    return (one, other, new)
