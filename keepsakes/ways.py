"""Ways over the pieces on a shelf, and the tables fetched by them (points 34 to 38)."""

from keepsakes.errors import BadPiece, NoPiece, NoWay


def is_way(shelf, way, day):
    at = -1
    for number in way:
        try:
            piece = shelf.piece(number)
        except NoPiece:
            return False
        if piece.start() != at:
            return False
        at = piece.day
    return len(way) > 0 and at == day


def fetched(shelf, way):
    if len(way) == 0:
        raise NoWay(0)
    table = []
    day = -1
    for at, number in enumerate(way):
        piece = shelf.piece(number)
        if piece.start() != day:
            raise NoWay(at)
        if not piece.is_good():
            raise BadPiece(piece.day)
        table = piece.laid(table)
        day = piece.day
    return table


def reached(shelf, good=False):
    return sorted(last_pieces(shelf, good))


def way_to(shelf, day, good=False):
    last = last_pieces(shelf, good)
    if day not in last:
        return None
    way = []
    at = day
    while at != -1:
        way.append(last[at])
        at = shelf.piece(last[at]).start()
    return list(reversed(way))


def last_pieces(shelf, good):
    # Days are met by how few pieces lead to them, so the first piece that comes to a day ends a shortest way.
    starting = numbers_by_start(shelf, good)
    last = {}
    met = [-1]
    while len(met) > 0:
        further = []
        for start in met:
            for number in starting.get(start, []):
                day = shelf.piece(number).day
                if day not in last:
                    last[day] = number
                    further.append(day)
        met = further
    return last


def numbers_by_start(shelf, good):
    starting = {}
    for number in shelf.numbers():
        piece = shelf.piece(number)
        if not good or piece.is_good():
            starting.setdefault(piece.start(), []).append(number)
    return starting
