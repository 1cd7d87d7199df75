"""Papers, which show that a way is one of least price (points 44 to 46)."""

from keepsakes.least import price_at, price_over, prices, way_of


def paper(legs, day):
    priced = prices(legs)
    rows = [(one,) + priced[one] for one in sorted(priced)]
    return (way_of(legs, day), rows)


def holds(legs, day, told):
    way = told[0]
    rows = told[1]
    if not days_rise(rows):
        return False
    priced = dict([(row[0], row[1:]) for row in rows])
    if not all([leg_holds(priced, leg) for leg in legs]):
        return False
    if way is None:
        return day not in priced
    return day in priced and price_of_way(legs, way, day) == priced[day]


def days_rise(rows):
    days = [row[0] for row in rows]
    return days == sorted(set(days)) and all([day >= 0 for day in days])


def leg_holds(priced, leg):
    start = price_at(priced, leg[1])
    if start is None:
        return True
    return leg[2] in priced and priced[leg[2]] <= price_over(start, leg)


def price_of_way(legs, way, day):
    by_number = dict([(leg[0], leg) for leg in legs])
    price = (0, 0, 0)
    at = -1
    for number in way:
        if number not in by_number or by_number[number][1] != at:
            return None
        price = price_over(price, by_number[number])
        at = by_number[number][2]
    # A way without numbers is still at -1, which is no day.
    return price if at == day else None
