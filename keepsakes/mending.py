"""Bad pieces: which days are lost by them and why, and what other shelves can mend (points 70 to 75)."""

from keepsakes.errors import Lost, NoDay, NoPiece
from keepsakes.least import legs_of, price_at, prices, way_of
from keepsakes.shelves import Shelf
from keepsakes.ways import fetched


def cuts(legs, day):
    priced = prices(legs)
    if day not in priced:
        return None
    return [cut_at(legs, priced, place) for place in range(priced[day][0])]


def cut_at(legs, priced, place):
    numbers = []
    for leg in legs:
        start = price_at(priced, leg[1])
        # Where the start has a way, the leg's day has one too, and so a price.
        if start is not None and start[0] <= place and priced[leg[2]][0] > place:
            numbers.append(leg[0])
    return sorted(numbers)


def answer(legs, day):
    found = cuts(legs, day)
    if found is None:
        return ("gone", sorted(prices(legs)))
    if len(found) == 0:
        return ("well", way_of(legs, day))
    return ("lost", way_of(legs, day), found)


def joined(shelves):
    pieces = {}
    for shelf in shelves:
        for number in shelf.numbers():
            piece = shelf.piece(number)
            if number not in pieces or (piece.is_good() and not pieces[number].is_good()):
                pieces[number] = piece
    together = Shelf()
    for number, piece in pieces.items():
        together.lay(number, piece)
    return together


def healed(shelf, other):
    mended = shelf.copied()
    replaced = []
    for number in shelf.numbers():
        if not shelf.piece(number).is_good() and has_good(other, number):
            mended.lay(number, other.piece(number))
            replaced.append(number)
    return (mended, replaced)


def has_good(shelf, number):
    try:
        return shelf.piece(number).is_good()
    except NoPiece:
        return False


def rescued(shelf, cost, day):
    told = answer(legs_of(shelf, cost), day)
    if told[0] == "gone":
        raise NoDay(day)
    if told[0] == "lost":
        raise Lost(day, told[2])
    return fetched(shelf, told[1])
