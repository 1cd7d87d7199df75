"""A desk, which has a store and answers rows of text (points 100 to 106)."""

from keepsakes.days import ask_wide
from keepsakes.least import prices, way_of
from keepsakes.lines import line_of
from keepsakes.mending import answer
from keepsakes.plans import best_plan, task_of
from keepsakes.rows import read_row
from keepsakes.ruletexts import rule_of
from keepsakes.stores import Store


def listed(things):
    return "none" if len(things) == 0 else " ".join([str(thing) for thing in things])


def some_of(numbers):
    # Behind the day stand the shelves; where none is told, all of them are asked.
    return None if len(numbers) == 1 else numbers[1:]


def on_day(store, changes):
    return str(store.passes(changes))


def on_keep(store, words):
    return str(store.keep(words[0]))


def on_seal(store, numbers):
    store.seal(numbers[0])
    return "ok"


def on_tidy(store, numbers):
    told = store.tidy()
    folds = [f"{one}+{other}={new}" for one, other, new in told[2]]
    return " / ".join([listed(told[0]), listed(told[1]), listed(folds)])


def on_carry(store, numbers):
    return str(store.carry(numbers[0], numbers[1]))


def on_harm(store, numbers):
    store.harm(numbers[0], numbers[1], numbers[2], numbers[3])
    return "ok"


def on_heal(store, numbers):
    return listed(store.heal(numbers[0], numbers[1]))


def on_marks(store, numbers):
    return listed(store.marks())


def on_lies(store, numbers):
    return listed(store.numbers(numbers[0]))


def on_line(store, numbers):
    return line_of(store.piece(numbers[0], numbers[1]))


def on_reach(store, numbers):
    day = store.reach(numbers[0])
    return "none" if day is None else str(day)


def on_fetch(store, numbers):
    some = some_of(numbers)
    told = answer(store.legs(some), numbers[0])
    if told[0] == "well":
        return "table " + listed(store.fetch(numbers[0], some))
    if told[0] == "lost":
        return "lost " + listed(["+".join([str(number) for number in cut]) for cut in told[2]])
    return "gone " + listed(told[1])


def on_price(store, numbers):
    price = prices(store.legs(some_of(numbers))).get(numbers[0])
    return "gone" if price is None else listed(price)


def on_way(store, numbers):
    way = way_of(store.legs(some_of(numbers)), numbers[0])
    return "gone" if way is None else listed(way)


def on_plan(store, numbers):
    task = task_of(store.days, numbers[0], numbers[5:], numbers[1:5])
    told = best_plan(task)
    return listed(told[0] + (told[1],))


ANSWERS = {
    "day": on_day,
    "keep": on_keep,
    "seal": on_seal,
    "tidy": on_tidy,
    "carry": on_carry,
    "harm": on_harm,
    "heal": on_heal,
    "marks": on_marks,
    "lies": on_lies,
    "line": on_line,
    "reach": on_reach,
    "fetch": on_fetch,
    "price": on_price,
    "way": on_way,
    "plan": on_plan,
}


class Desk:
    def __init__(self, wide, seek, each, rules):
        # The store would ask this too, but only behind the rule's text.
        ask_wide(wide)
        self.store = Store(wide, rule_of(rules), seek, each)

    def say(self, row):
        told = read_row(row)
        return ANSWERS[told[0]](self.store, told[1])
