"""Points 80 to 83: tasks, allowed words, costs and bounds."""

import unittest

from helping import (Draw, Refusing, beginnings_of, bound_by_words, cost_by_words, plans_of, sizes_drawn, task_drawn,
                     words_allowed)

from keepsakes.errors import NoPlan
from keepsakes.tasks import Task, allowed, bound_of, cost_of

GREAT = 10 ** 12
SMALL = Task([[9], [8, 3], [7, 5, 2]], [1, 0, 4], [2, 3, 10, 1])


class Made(Refusing):
    def test_lists_and_tuples(self):
        for many in (1, 2, 7):
            sizes = [[9] + list(range(day)) for day in range(many)]
            weights = list(range(many))
            rates = [1, 2, 3, 4]
            as_told = (tuple(tuple(row) for row in sizes), tuple(weights), (1, 2, 3, 4))
            for task in (Task(sizes, weights, rates), Task(*as_told), Task(sizes=sizes, weights=weights, rates=rates),
                         Task([tuple(row) for row in sizes], weights, rates),
                         Task(tuple(sizes), tuple(weights), rates)):
                self.assertEqual((task.sizes, task.weights, task.rates), as_told)
                self.assertEqual([type(value) for value in (task.sizes, task.weights, task.rates)], [tuple] * 3)
                self.assertTrue(all(type(row) is tuple for row in task.sizes))

    def test_the_askers_lists_changed_afterwards(self):
        sizes, weights, rates = [[9], [8, 3]], [1, 0], [1, 2, 3, 4]
        task = Task(sizes, weights, rates)
        self.assertEqual((sizes, weights, rates), ([[9], [8, 3]], [1, 0], [1, 2, 3, 4]))
        sizes[1][1] = 99
        sizes.append([1, 2, 3])
        weights[0] = 7
        rates.clear()
        self.assertEqual((task.sizes, task.weights, task.rates), (((9,), (8, 3)), (1, 0), (1, 2, 3, 4)))
        self.assertEqual(cost_of(task, ["whole"]), (1 + 2 * 2) * 9 + 3 + 4 * 9)

    def test_no_plan(self):
        for many in (0, 8, 9, 30):
            sizes = [[9] * (day + 1) for day in range(many)]
            for handed in (sizes, tuple(sizes)):
                self.assert_refused(NoPlan(many), Task, handed, [1] * many, [1, 1, 1, 1])
                self.assert_refused(NoPlan(many), Task, handed, [], [1, 1, 1, 1])


class Allowed(unittest.TestCase):
    def test_written_out(self):
        task = Task([[1], [1, 1], [1, 1, 1]], [0, 1, 0], [1, 1, 1, 1])
        self.assertEqual(allowed(task, ()), ["none", "whole"])
        self.assertEqual(allowed(task, ("none",)), ["whole"])
        self.assertEqual(allowed(task, ("whole",)), ["whole", "since", "last"])
        self.assertEqual(allowed(task, ("none", "whole")), ["none", "whole", "since", "last"])
        self.assertEqual(allowed(task, ("whole", "since")), ["none", "whole", "since", "last"])
        self.assertEqual(allowed(task, ("whole", "last", "none")), [])

    def test_without_a_piece_ahead(self):
        task = Task([[1], [1, 1], [1, 1, 1]], [0, 0, 0], [1, 1, 1, 1])
        self.assertEqual(allowed(task, ("none", "none")), ["none", "whole"])
        task = Task([[1], [1, 1], [1, 1, 1]], [0, 0, GREAT], [1, 1, 1, 1])
        self.assertEqual(allowed(task, ("none", "none")), ["whole"])

    def test_behind_every_beginning(self):
        draw = Draw(81)
        for many in range(1, 6):
            for unused in range(8):
                task = task_drawn(draw, many)
                for choices in beginnings_of(task):
                    told = words_allowed(task.weights[len(choices)], choices) if len(choices) < many else []
                    for handed in (choices, list(choices)):
                        words = allowed(task, handed)
                        self.assertEqual((words, type(words)), (told, list))
                        words.append("none")
                        self.assertEqual(allowed(task, handed), told)
                        self.assertEqual(tuple(handed), choices)

    def test_the_task_stays_as_it_was(self):
        self.assertEqual((SMALL.sizes, SMALL.weights, SMALL.rates),
                         (((9,), (8, 3), (7, 5, 2)), (1, 0, 4), (2, 3, 10, 1)))


class Costs(unittest.TestCase):
    def test_written_out(self):
        # Three days: make + hold * n is 11, 8 and 5; a way over a piece of size s costs 10 + s.
        self.assertEqual(cost_of(SMALL, ()), 0)
        self.assertEqual(cost_of(SMALL, ("whole",)), 11 * 9 + 19)
        self.assertEqual(cost_of(SMALL, ("whole", "none")), 118)
        self.assertEqual(cost_of(SMALL, ("whole", "since")), 118 + 8 * 3)
        self.assertEqual(cost_of(SMALL, ("whole", "none", "whole")), 118 + 5 * 7 + 4 * 17)
        self.assertEqual(cost_of(SMALL, ("whole", "none", "last")), 118 + 5 * 5 + 4 * (19 + 15))
        self.assertEqual(cost_of(SMALL, ("whole", "last", "since")), 118 + 24 + 5 * 5 + 4 * (19 + 15))
        self.assertEqual(cost_of(SMALL, ("whole", "last", "last")), 118 + 24 + 5 * 2 + 4 * (19 + 13 + 12))
        self.assertEqual(cost_of(SMALL, ("whole", "whole", "since")), 118 + 8 * 8 + 5 * 2 + 4 * (18 + 12))

    def test_bounds_written_out(self):
        self.assertEqual(bound_of(SMALL, ()), 11 * 9 + 19 + 5 * 2 + 4 * 12)
        self.assertEqual(bound_of(SMALL, ("whole", "since")), 118 + 24 + 5 * 2 + 4 * 12)
        self.assertEqual(bound_of(SMALL, ("whole", "last", "last")), cost_of(SMALL, ("whole", "last", "last")))

    def test_a_least_size_of_any_place(self):
        for sizes in ([1, 5, 5], [5, 1, 5], [5, 5, 1]):
            task = Task([[9], [9, 9], sizes], [0, 0, 3], [1, 1, 1, 1])
            self.assertEqual(bound_of(task, ()), 2 * 1 + 3 * 2)
            self.assertEqual(bound_of(task, ("none",)), 8)

    def test_every_beginning_against_the_words(self):
        draw = Draw(82)
        for many in range(1, 6):
            for at in range(10):
                task = task_drawn(draw, many, 6 if at % 3 else GREAT)
                before = (task.sizes, task.weights, task.rates)
                plans = [(plan, cost_by_words(task, plan)) for plan in plans_of(task)] if many < 5 else []
                for choices in beginnings_of(task):
                    for handed in (choices, list(choices)):
                        self.assertEqual(cost_of(task, handed), cost_by_words(task, choices))
                        self.assertEqual(bound_of(task, handed), bound_by_words(task, choices))
                        self.assertEqual(tuple(handed), choices)
                    bound = bound_of(task, choices)
                    self.assertTrue(all(cost >= bound for plan, cost in plans if plan[:len(choices)] == choices))
                    if len(choices) == many:
                        self.assertEqual(bound, cost_of(task, choices))
                self.assertEqual((task.sizes, task.weights, task.rates), before)

    def test_great_numbers(self):
        task = Task([[GREAT] * (day + 1) for day in range(7)], [GREAT] * 7, [GREAT] * 4)
        way = GREAT + GREAT * GREAT
        self.assertEqual(cost_of(task, ["whole"] * 7), sum((GREAT + GREAT * left) * GREAT + GREAT * way
                                                           for left in range(1, 8)))
        self.assertEqual(cost_of(task, ["whole"] + ["last"] * 6), sum((GREAT + GREAT * (7 - day)) * GREAT
                                                                      + GREAT * way * (day + 1) for day in range(7)))
        self.assertEqual(bound_of(task, []), cost_of(task, ["whole"] * 7))
        self.assertIs(type(cost_of(task, ())), int)

    def test_noughts(self):
        task = Task([[0], [0, 0]], [0, 0], [0, 0, 0, 0])
        for choices in beginnings_of(task):
            self.assertEqual((cost_of(task, choices), bound_of(task, choices)), (0, 0))

    def test_seven_days(self):
        draw = Draw(83)
        task = Task(sizes_drawn(draw, 7, 40), [1, 0, 2, 0, 0, 9, 1], [3, 1, 20, 2])
        for choices in beginnings_of(task)[::40]:
            self.assertEqual(cost_of(task, choices), cost_by_words(task, choices))
            self.assertEqual(bound_of(task, choices), bound_by_words(task, choices))


if __name__ == "__main__":
    unittest.main()
