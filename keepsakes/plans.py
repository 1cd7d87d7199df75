"""Plans of least cost, and what they come to on a row of days (points 84 to 89)."""

from keepsakes.pieces import gain_of, whole_of
from keepsakes.shelves import Shelf
from keepsakes.tasks import Task, allowed, ask_many, bases_of, bound_of, cost_of, costs_of


def best_plan(task):
    best = None
    least_cost = None
    leaves = []
    waiting = [()]
    while len(waiting) > 0:
        choices = waiting.pop()
        bound = bound_of(task, choices)
        if least_cost is not None and bound >= least_cost:
            leaves.append((choices, bound))
        elif len(choices) == len(task.sizes):
            leaves.append((choices, bound))
            best = choices
            least_cost = bound
        else:
            # What is put there last is taken first, and that must be the first word.
            waiting.extend([choices + (word,) for word in reversed(allowed(task, choices))])
    return (best, least_cost, leaves)


def task_of(days, begin, weights, rates):
    ask_many(len(weights))
    for day in range(begin, begin + len(weights)):
        days.ask_day(day)
    return Task([sizes_of(days, begin, day) for day in range(len(weights))], weights, rates)


def sizes_of(days, begin, day):
    return [days.wide] + [len(days.written(begin + base, begin + day)) for base in range(day)]


def shelf_of(days, begin, choices):
    shelf = Shelf()
    for day, base in enumerate(bases_of(choices)):
        if base == -1:
            shelf.put(whole_of(days, begin + day))
        elif base is not None:
            shelf.put(gain_of(days, begin + base, begin + day))
    return shelf


def lines_of(task, choices):
    total = str(cost_of(task, choices))
    lines = []
    for day, row in enumerate(costs_of(task, choices)):
        words = [str(day).zfill(2), choices[day].ljust(5)]
        words.extend([shown(number).rjust(len(total)) for number in row])
        lines.append(" ".join(words))
    lines.append("total    " + total)
    return lines


def shown(number):
    return "-" if number is None else str(number)
