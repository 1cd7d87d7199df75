"""Numbers and changes as they are written (point 10)."""

from keepsakes.bounds import MOST_FIGURES
from keepsakes.errors import NoWord

FIGURES = "0123456789"


def writes_number(word):
    if word == "0":
        return True
    if len(word) < 1 or len(word) > MOST_FIGURES or word[0] == "0":
        return False
    # isdigit would let in the figures of other scripts too.
    return all([sign in FIGURES for sign in word])


def number_of(word):
    if not writes_number(word):
        raise NoWord(word)
    return int(word)


def change_of(word):
    parts = word.split("=")
    if len(parts) != 2 or not writes_number(parts[0]) or not writes_number(parts[1]):
        raise NoWord(word)
    return (int(parts[0]), int(parts[1]))


def changes_of(text):
    # A cut at each blank would find one word without signs here.
    if text == "":
        return []
    return [change_of(word) for word in text.split(" ")]


def text_of(changes):
    return " ".join([f"{place}={block}" for place, block in changes])
