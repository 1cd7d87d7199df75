"""Throwing away the pieces that no wanted day needs (points 56 to 58)."""

from keepsakes.least import last_legs, legs_of
from keepsakes.ways import reached


def needed(legs, wanted):
    last = last_legs(legs)
    starts = dict([(leg[0], leg[1]) for leg in legs])
    found = {}
    for day in wanted:
        at = day
        # From a leg that was found on, the rest of the told way was found with it.
        while at in last and last[at] not in found:
            found[last[at]] = True
            at = starts[last[at]]
    return sorted(found)


def tidied(shelf, rule, cost):
    wanted = rule.picks(reached(shelf))
    staying = needed(legs_of(shelf, cost), wanted)
    thrown = sorted(set(shelf.numbers()) - set(staying))
    left = shelf.copied()
    for number in thrown:
        left.drop(number)
    return (left, wanted, thrown)
