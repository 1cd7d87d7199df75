"""Pieces as lines of text, there and back (points 28 and 29)."""

from keepsakes.bounds import MOST_BLOCKS, MOST_DAY, W
from keepsakes.errors import NoLine, NoWord
from keepsakes.pieces import Gain, Whole
from keepsakes.words import FIGURES, change_of, number_of, text_of

CHECK_FIGURES = 20

# How many days stand behind the first word of a line.
DAYS_TOLD = {"whole": 1, "gain": 2}


def line_of(piece):
    words = [piece.kind()]
    if piece.kind() == "gain":
        words.append(str(piece.base))
    words.append(str(piece.day))
    words.extend([text_of([row]) for row in piece.rows])
    words.append(str(piece.check).zfill(CHECK_FIGURES))
    return " ".join(words)


def piece_of(line):
    words = line.split(" ")
    # The check stands last, so less than this is no line whatever the words are.
    if words[0] not in DAYS_TOLD or len(words) < DAYS_TOLD[words[0]] + 2:
        raise NoLine(line)
    try:
        piece = piece_by_words(words, DAYS_TOLD[words[0]])
    except NoWord:
        raise NoLine(line) from None
    if not is_within(piece) or not is_formed(piece):
        raise NoLine(line)
    return piece


def piece_by_words(words, many):
    days = [number_of(word) for word in words[1:many + 1]]
    rows = [change_of(word) for word in words[many + 1:-1]]
    check = check_by_word(words[-1])
    if words[0] == "whole":
        return Whole(days[0], rows, check)
    return Gain(days[0], days[1], rows, check)


def check_by_word(word):
    if len(word) != CHECK_FIGURES or not all([sign in FIGURES for sign in word]):
        raise NoWord(word)
    return int(word)


def is_within(piece):
    if piece.day > MOST_DAY or piece.check > W:
        return False
    return all([place < MOST_BLOCKS and block <= W for place, block in piece.rows])


def is_formed(piece):
    places = [place for place, block in piece.rows]
    if piece.kind() == "whole":
        return len(places) > 0 and places == list(range(len(places)))
    return piece.base < piece.day and places == sorted(set(places))
