"""Legs, their prices, and the ways of least price (points 5, 6 and 41 to 43)."""

from keepsakes.heaps import Heap


def rate(seek, each):
    def cost(piece):
        return seek + each * piece.size()
    return cost


def legs_of(shelf, cost):
    legs = []
    for number in shelf.numbers():
        piece = shelf.piece(number)
        legs.append((number, piece.start(), piece.day, 0 if piece.is_good() else 1, cost(piece)))
    return legs


def prices(legs):
    starting = legs_by_start(legs)
    priced = {}
    heap = Heap()
    heap.add((0, 0, 0, -1))
    # Each leg makes a price greater, so the first price that is taken out for a day is its least one.
    while heap.size() > 0:
        item = heap.take()
        if item[3] not in priced:
            priced[item[3]] = item[:3]
            for leg in starting.get(item[3], []):
                heap.add(price_over(item[:3], leg) + (leg[2],))
    priced.pop(-1)
    return priced


def last_legs(legs):
    priced = prices(legs)
    last = {}
    for leg in legs:
        start = price_at(priced, leg[1])
        if start is not None and price_over(start, leg) == priced[leg[2]]:
            last[leg[2]] = min(leg[0], last.get(leg[2], leg[0]))
    return last


def way_of(legs, day):
    last = last_legs(legs)
    if day not in last:
        return None
    starts = dict([(leg[0], leg[1]) for leg in legs])
    way = []
    at = day
    while at != -1:
        way.append(last[at])
        at = starts[last[at]]
    return list(reversed(way))


def legs_by_start(legs):
    starting = {}
    for leg in legs:
        starting.setdefault(leg[1], []).append(leg)
    return starting


def price_at(priced, start):
    return (0, 0, 0) if start == -1 else priced.get(start)


def price_over(price, leg):
    return (price[0] + leg[3], price[1] + leg[4], price[2] + 1)
