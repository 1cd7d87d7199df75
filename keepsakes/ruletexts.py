"""Rules as they are written (point 55)."""

from keepsakes.errors import NoRule, NoWord
from keepsakes.rules import AnyOf, Apart, LastFew, OneOfEach, Sealed
from keepsakes.words import number_of


def rule_of(text):
    # A cut would find one part without signs here.
    if text == "":
        return AnyOf([])
    return AnyOf([rule_of_part(part) for part in text.split(", ")])


def rule_of_part(part):
    words = part.split(" ")
    try:
        numbers = [number_of(word) for word in words[1:]]
    except NoWord:
        raise NoRule(part) from None
    if words[0] == "last" and len(numbers) == 1:
        return LastFew(numbers[0])
    if words[0] == "each" and len(numbers) == 1:
        return OneOfEach(numbers[0])
    if words[0] == "each" and len(numbers) == 2:
        return OneOfEach(numbers[0], numbers[1])
    if words[0] == "apart" and len(numbers) == 1:
        return Apart(numbers[0])
    if words[0] == "sealed" and len(numbers) > 0:
        return Sealed(numbers)
    raise NoRule(part)
