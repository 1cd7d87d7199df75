"""Points 84 to 89: best plans, tasks and shelves of rows of days, and beginnings as lines."""

import unittest

from helping import (Draw, Refusing, base_by_words, beginnings_of, bound_by_words, cost_by_words, day_by_words,
                     days_by_chance, lying_on, plans_of, size_by_words, sizes_drawn, task_drawn, told_of, way_by_words,
                     words_allowed)

from keepsakes.days import Days
from keepsakes.errors import NoDay, NoPlan
from keepsakes.least import legs_of, prices, rate
from keepsakes.pieces import gain_of, whole_of
from keepsakes.plans import best_plan, lines_of, shelf_of, task_of
from keepsakes.shelves import Shelf
from keepsakes.tasks import Task, cost_of

GREAT = 10 ** 12


def looked_through(task):
    """Point 84 word by word: the leaves, and the plans that were met with their costs."""
    leaves, met = [], []

    def look(choices):
        bound = bound_by_words(task, choices)
        if met and bound >= met[-1][1]:
            leaves.append((choices, bound))
        elif len(choices) == len(task.sizes):
            leaves.append((choices, bound))
            met.append((choices, bound))
        else:
            for word in words_allowed(task.weights[len(choices)], choices):
                look(choices + (word,))

    look(())
    return (leaves, met)


class Best(unittest.TestCase):
    def test_one_day(self):
        self.assertEqual(best_plan(Task([[5]], [0], [1, 1, 1, 1])),
                         (("none",), 0, [(("none",), 0), (("whole",), 10)]))
        self.assertEqual(best_plan(Task([[5]], [2], [1, 1, 1, 1])), (("whole",), 22, [(("whole",), 22)]))

    def test_written_out(self):
        # Day 0 costs 2 * 9 and a way of 10; day 1 costs 9 and 10, or as a gain 1 and a way of 10 + 2.
        task = Task([[9], [9, 1]], [1, 1], [0, 1, 1, 1])
        self.assertEqual(best_plan(task), (("whole", "since"), 41, [
            (("whole", "whole"), 47), (("whole", "since"), 41), (("whole", "last"), 41)]))

    def test_a_beginning_that_is_cut_off_ahead_of_its_end(self):
        task = Task([[1], [1, 9]], [0, 1], [1, 0, 0, 0])
        self.assertEqual(best_plan(task), (("none", "whole"), 1, [(("none", "whole"), 1), (("whole",), 2)]))

    def test_nothing_costs_anything(self):
        task = Task([[0], [0, 0], [0, 0, 0]], [1, 1, 1], [0, 0, 0, 0])
        self.assertEqual(best_plan(task), (("whole", "whole", "whole"), 0, [
            (("whole", "whole", "whole"), 0), (("whole", "whole", "since"), 0), (("whole", "whole", "last"), 0),
            (("whole", "since"), 0), (("whole", "last"), 0)]))

    def test_against_all_plans(self):
        draw = Draw(84)
        several = 0
        for many in range(1, 6):
            for at in range(30):
                task = task_drawn(draw, many, (2, 6, GREAT)[at % 3])
                before = (task.sizes, task.weights, task.rates)
                told = best_plan(task)
                self.assertEqual((task.sizes, task.weights, task.rates), before)
                leaves, met = looked_through(task)
                self.assertEqual(told, met[-1] + (leaves,))
                plans = plans_of(task)
                costs = [cost_by_words(task, plan) for plan in plans]
                self.assertEqual(told[1], min(costs))
                self.assertEqual(told[0], plans[costs.index(min(costs))])
                several += costs.count(min(costs)) > 1
                self.assert_leaves(plans, told)
        self.assertGreater(several, 20)

    def assert_leaves(self, plans, told):
        begun = {plan: 0 for plan in plans}
        for choices, bound in told[2]:
            self.assertGreaterEqual(bound, told[1])
            for plan in plans:
                begun[plan] += plan[:len(choices)] == choices
        self.assertEqual(set(begun.values()), {1})

    def test_seven_days(self):
        draw = Draw(85)
        for weights in ([1] * 7, [0, 3, 0, 0, 1, 0, 2]):
            task = Task(sizes_drawn(draw, 7, 40), weights, [1, 1, 5, 1])
            leaves, met = looked_through(task)
            self.assertEqual(best_plan(task), met[-1] + (leaves,))

    def test_kinds(self):
        told = best_plan(Task([[9], [9, 1]], [1, 0], [0, 1, 1, 1]))
        self.assertEqual([type(part) for part in told], [tuple, int, list])
        for leaf in told[2]:
            self.assertEqual((type(leaf), type(leaf[0]), type(leaf[1])), (tuple, tuple, int))

    def test_what_is_told_is_the_askers_own(self):
        task = Task([[9], [9, 1]], [1, 0], [0, 1, 1, 1])
        told = best_plan(task)
        again = best_plan(task)
        told[2].clear()
        self.assertEqual(best_plan(task), again)


def five_days():
    days = Days(4)
    for changes in ([(0, 1)], [(1, 2), (0, 1)], [], [(3, 9), (3, 8)], [(0, 5), (2, 6)]):
        days.passes(changes)
    return days


class OfDays(Refusing):
    def test_written_out(self):
        days = five_days()
        task = task_of(days, 1, [5, 0, 7], [1, 2, 3, 4])
        self.assertIs(type(task), Task)
        self.assertEqual(task.sizes, ((4,), (4, 2), (4, 2, 0)))
        self.assertEqual((task.weights, task.rates), ((5, 0, 7), (1, 2, 3, 4)))
        self.assertEqual(task_of(days, 2, [1, 1, 1, 1], (0, 0, 0, 0)).sizes, ((4,), (4, 0), (4, 1, 1), (4, 3, 3, 2)))
        self.assertEqual(task_of(days, 5, (3,), (0, 0, 0, 0)).sizes, ((4,),))
        self.assertEqual(task_of(days, 0, (3,), (0, 0, 0, 0)).sizes, ((4,),))

    def test_rows_of_days_drawn(self):
        draw = Draw(86)
        for unused in range(30):
            days = days_by_chance(draw, draw.randrange(1, 8), 9)
            many, begin = draw.randrange(1, 8), draw.randrange(3)
            weights, rates = [draw.randrange(5) for day in range(many)], [draw.randrange(GREAT) for part in range(4)]
            told = tuple((days.wide,) + tuple(len(days.written(begin + base, begin + day)) for base in range(day))
                         for day in range(many))
            for handed in ((weights, rates), (tuple(weights), tuple(rates))):
                task = task_of(days, begin, *handed)
                self.assertEqual((task.sizes, task.weights, task.rates), (told, tuple(weights), tuple(rates)))
            weights.append(4)
            rates[0] = -1
            self.assertEqual(task.sizes, told)
            self.assertEqual(days.last, 9)

    def test_no_plan_ahead_of_no_day(self):
        days = days_by_chance(Draw(1), 2, 9)
        for many in (0, 8, 9, 40):
            for begin in (0, 1, 5, 9, 10, -1):
                self.assert_refused(NoPlan(many), task_of, days, begin, [1] * many, [1, 1, 1, 1])
                self.assert_refused(NoPlan(many), task_of, days, begin, (1,) * many, (1, 1, 1, 1))

    def test_the_first_day_that_is_not_there(self):
        days = five_days()
        for begin, many, day in ((6, 1, 6), (5, 2, 6), (4, 7, 6), (0, 7, 6), (7, 3, 7), (-1, 1, -1), (-3, 7, -3),
                                 (10 ** 9, 2, 10 ** 9)):
            self.assert_refused(NoDay(day), task_of, days, begin, [1] * many, [1, 1, 1, 1])
        self.assertEqual(days.last, 5)

    def test_seven_days_at_most(self):
        days = days_by_chance(Draw(1), 2, 9)
        self.assertEqual(len(task_of(days, 3, [1] * 7, [1, 1, 1, 1]).sizes), 7)


class Shelves(unittest.TestCase):
    def test_written_out(self):
        days = five_days()
        shelf = shelf_of(days, 1, ("whole", "none", "since", "last", "whole"))
        self.assertIs(type(shelf), Shelf)
        self.assertEqual(lying_on(shelf), (4, [
            (0, told_of(whole_of(days, 1))), (1, told_of(gain_of(days, 1, 3))), (2, told_of(gain_of(days, 3, 4))),
            (3, told_of(whole_of(days, 5)))]))

    def test_no_piece(self):
        for choices in ((), [], ("none",), ("none", "none")):
            self.assertEqual(lying_on(shelf_of(five_days(), 0, choices)), (0, []))

    def test_every_beginning(self):
        draw = Draw(87)
        days = days_by_chance(draw, 4, 8)
        for choices in beginnings_of(Task([[1]] * 5, [0] * 5, [1] * 4)):
            begin = draw.randrange(4)
            told = []
            for day, word in enumerate(choices):
                if word == "whole":
                    told.append(told_of(whole_of(days, begin + day)))
                elif word != "none":
                    told.append(told_of(gain_of(days, begin + base_by_words(choices, day), begin + day)))
            for handed in (choices, list(choices)):
                shelf = shelf_of(days, begin, handed)
                self.assertEqual(lying_on(shelf), (len(told), list(enumerate(told))))
            shelf.put(whole_of(days, 0))
            self.assertEqual(shelf_of(days, begin, choices).following(), len(told))

    def test_the_cost_of_what_comes_of_it(self):
        draw = Draw(89)
        for unused in range(12):
            days = days_by_chance(draw, draw.randrange(1, 5), 8)
            many, begin = draw.randrange(1, 6), draw.randrange(4)
            weights = [draw.choice((0, 0, 1, 5)) for day in range(many)]
            make, hold, seek, each = [draw.randrange(5) for part in range(4)]
            task = task_of(days, begin, weights, [make, hold, seek, each])
            for plan in plans_of(task):
                shelf = shelf_of(days, begin, plan)
                cost = 0
                for number in shelf.numbers():
                    piece = shelf.piece(number)
                    cost += (make + hold * (many - (piece.day - begin))) * piece.size()
                priced = prices(legs_of(shelf, rate(seek, each)))
                cost += sum(weight * priced[begin + day][1] for day, weight in enumerate(weights) if weight > 0)
                self.assertEqual(cost_of(task, plan), cost)


class Lines(unittest.TestCase):
    def test_written_out(self):
        task = Task([[9], [8, 3], [7, 5, 2]], [1, 0, 4], [2, 3, 10, 1])
        self.assertEqual(lines_of(task, ("whole", "none", "last")), [
            "00 whole   9  19 118",
            "01 none    -   -   0",
            "02 last    5  34 161",
            "total    279"])
        self.assertEqual(lines_of(task, ["whole", "since"]), [
            "00 whole   9  19 118",
            "01 since   3  32  24",
            "total    142"])

    def test_without_words(self):
        task = Task([[9]], [0], [1, 1, 1, 1])
        self.assertEqual(lines_of(task, ()), ["total    0"])
        self.assertEqual(lines_of(task, ("none",)), ["00 none  - - 0", "total    0"])

    def test_numbers_longer_than_the_cost(self):
        task = Task([[123], [77, 12345]], [0, 0], [0, 0, 100, 9])
        self.assertEqual(lines_of(task, ("whole", "since")), [
            "00 whole 123 1207 0",
            "01 since 12345 112412 0",
            "total    0"])
        task = Task([[12], [77, 0]], [0, 0], [0, 0, 100, 9])
        self.assertEqual(lines_of(task, ("whole", "none")), ["00 whole 12 208 0", "01 none  - - 0", "total    0"])

    def test_seven_days(self):
        task = Task([[day + 1] * (day + 1) for day in range(7)], [0] * 7, [1, 0, 0, 1])
        self.assertEqual(lines_of(task, ("whole", "last", "last", "none", "last", "since", "whole")), [
            "00 whole  1  1  1", "01 last   2  3  2", "02 last   3  6  3", "03 none   -  -  0", "04 last   5 11  5",
            "05 since  6  7  6", "06 whole  7  7  7", "total    24"])

    def test_against_the_words(self):
        draw = Draw(88)
        for at in range(12):
            task = task_drawn(draw, 4, (3, 40, GREAT)[at % 3])
            for choices in beginnings_of(task)[::5]:
                total = str(cost_by_words(task, choices))
                told = []
                for day, word in enumerate(choices):
                    some = ["-", "-"]
                    if word != "none":
                        some = [str(size_by_words(task, choices, day)), str(way_by_words(task, choices, day))]
                    some.append(str(day_by_words(task, choices, day)))
                    told.append(f"0{day} {word:5}" + "".join(" " + part.rjust(len(total)) for part in some))
                told.append("total    " + total)
                for handed in (choices, list(choices)):
                    lines = lines_of(task, handed)
                    self.assertEqual((lines, type(lines)), (told, list))
                lines.clear()
                self.assertEqual(lines_of(task, choices), told)


if __name__ == "__main__":
    unittest.main()
