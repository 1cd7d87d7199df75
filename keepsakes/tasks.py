"""Tasks: what may be kept on each of some days, and what it costs (points 80 to 83)."""

from keepsakes.bounds import MOST_PLANNED
from keepsakes.errors import NoPlan


class Task:
    def __init__(self, sizes, weights, rates):
        ask_many(len(sizes))
        self.sizes = tuple([tuple(of_day) for of_day in sizes])
        self.weights = tuple(weights)
        self.rates = tuple(rates)


def ask_many(many):
    if many < 1 or many > MOST_PLANNED:
        raise NoPlan(many)


def allowed(task, choices):
    day = len(choices)
    if day >= len(task.sizes):
        return []
    bases = bases_behind(choices)
    words = ["none"] if task.weights[day] == 0 else []
    return words + [word for word in ("whole", "since", "last") if word in bases]


def bases_behind(choices):
    # A word without a base isn't there; a whole piece is laid on nothing, for which -1 stands.
    bases = {"whole": -1}
    for day, word in enumerate(choices):
        if word == "whole":
            bases["since"] = day
        if word != "none":
            bases["last"] = day
    return bases


def bases_of(choices):
    return [bases_behind(choices[:day]).get(word) for day, word in enumerate(choices)]


def cost_of(task, choices):
    return sum([row[2] for row in costs_of(task, choices)])


def costs_of(task, choices):
    # For each day the size of its piece, the cost of its way, and its own cost.
    rows = []
    ways = {-1: 0}
    for day, base in enumerate(bases_of(choices)):
        if base is None:
            rows.append((None, None, 0))
        else:
            # The whole piece's size stands ahead of those of the gains, so its base -1 finds it.
            size = task.sizes[day][base + 1]
            ways[day] = ways[base] + leg_cost(task, size)
            rows.append((size, ways[day], day_cost(task, day, size, ways[day])))
    return rows


def leg_cost(task, size):
    return task.rates[2] + task.rates[3] * size


def day_cost(task, day, size, way):
    held = len(task.sizes) - day
    return (task.rates[0] + task.rates[1] * held) * size + task.weights[day] * way


def bound_of(task, choices):
    bound = cost_of(task, choices)
    for day in range(len(choices), len(task.sizes)):
        if task.weights[day] > 0:
            size = min(task.sizes[day])
            bound = bound + day_cost(task, day, size, leg_cost(task, size))
    return bound
