"""Checks, which tell whether a piece is still what it was (points 20 and 21)."""

from keepsakes.bounds import W


def turned(number):
    return number * 128 % (W + 1) + number // 2 ** 57


def check_of(start, day, rows):
    # A start may be -1, and only numbers from 0 on go into a check.
    numbers = [start + 1, day]
    for place, block in rows:
        numbers.extend([place, block])
    check = 0
    for number in numbers:
        check = turned(check) ^ number
    return check
