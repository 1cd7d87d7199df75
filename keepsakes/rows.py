"""The rows of words that a desk is told (points 101 to 105)."""

from keepsakes.bounds import MOST_RATE, W
from keepsakes.errors import NoRow, NoWord
from keepsakes.words import change_of, number_of

# How many numbers stand behind the first word of a row: so many at least, and so many at most.
FORMS = {
    "seal": (1, 1),
    "tidy": (0, 0),
    "carry": (2, 2),
    "harm": (4, 4),
    "heal": (2, 2),
    "marks": (0, 0),
    "lies": (1, 1),
    "line": (2, 2),
    "reach": (1, 1),
    "fetch": (1, None),
    "price": (1, None),
    "way": (1, None),
    "plan": (6, None),
}

KEPT = ("whole", "since", "last")


def read_row(row):
    words = row.split(" ")
    try:
        told = told_behind(words[0], words[1:])
    except NoWord:
        raise NoRow(row) from None
    return (words[0], told)


def told_behind(word, rest):
    if word == "day":
        return [change_of(change) for change in rest]
    if word == "keep":
        ask_form(word, len(rest) == 1 and rest[0] in KEPT)
        return rest
    ask_form(word, word in FORMS and is_as_many(len(rest), FORMS[word]))
    numbers = [number_of(number) for number in rest]
    ask_form(word, is_within(word, numbers))
    return numbers


def ask_form(word, fits):
    if not fits:
        raise NoWord(word)


def is_as_many(many, form):
    return many >= form[0] and (form[1] is None or many <= form[1])


def is_within(word, numbers):
    if word == "harm":
        return numbers[3] <= W
    if word == "plan":
        return max(numbers[1:]) <= MOST_RATE
    return True
