"""Point 40: heaps."""

import random
import unittest

from helping import Refusing

from keepsakes.errors import NoItem
from keepsakes.heaps import Heap


def heap_with(items):
    heap = Heap()
    for item in items:
        heap.add(item)
    return heap


def items_by_chance(chance, many):
    numbers = [chance.choice((0, 1, -1, chance.randrange(-5, 6), chance.randrange(-(10 ** 60) + 1, 10 ** 60)))
               for unused in range(many)]
    tuples = [tuple(chance.randrange(-2, 3) for unused in range(chance.randrange(4))) for unused_too in range(many)]
    return [numbers, tuples, [(number, 1) for number in numbers]]


class Heaps(Refusing):
    def assert_heaped(self, heap, items):
        row = heap.lying()
        self.assertIs(type(row), list)
        self.assertEqual(sorted(row), sorted(items))
        self.assertEqual(heap.size(), len(items))
        for place in range(1, len(row)):
            self.assertFalse(row[place] < row[(place - 1) // 2], row)
        if items:
            self.assertEqual(heap.least(), min(items))
            self.assertEqual(heap.lying(), row)

    def test_a_new_heap(self):
        self.assert_heaped(Heap(), [])
        self.assert_refused(NoItem(), Heap().least)
        self.assert_refused(NoItem(), Heap().take)

    def test_without_items_again(self):
        heap = heap_with([4])
        self.assertEqual(heap.take(), 4)
        for unused in range(2):
            self.assert_refused(NoItem(), heap.least)
            self.assert_refused(NoItem(), heap.take)
            self.assert_heaped(heap, [])
        heap.add(7)
        self.assert_heaped(heap, [7])

    def test_each_order_of_a_few(self):
        chance = random.Random(40)
        for items in ([3, 1, 2], [1, 1, 1], [5, 4, 3, 2, 1, 0, -1], [(1, 2), (1,), (), (0, 9), (1, 2)],
                      [10 ** 59, -(10 ** 59), 0, 9, -9]):
            for unused in range(40):
                chance.shuffle(items)
                heap = heap_with(items)
                self.assert_heaped(heap, items)
                self.assertEqual([heap.take() for item in items], sorted(items))
                self.assert_heaped(heap, [])

    def test_after_each_add_and_take(self):
        chance = random.Random(41)
        for many in (1, 2, 3, 7, 8, 30):
            for items in items_by_chance(chance, many):
                heap, held = Heap(), []
                for item in items:
                    self.assertIsNone(heap.add(item))
                    held.append(item)
                    self.assert_heaped(heap, held)
                for item in sorted(items):
                    self.assertEqual(heap.take(), item)
                    held.remove(item)
                    self.assert_heaped(heap, held)

    def test_in_turn(self):
        chance = random.Random(42)
        for items in items_by_chance(chance, 200):
            heap, held = Heap(), []
            for item in items:
                if held and chance.randrange(5) < 2:
                    least = heap.take()
                    self.assertEqual(least, min(held))
                    held.remove(least)
                else:
                    heap.add(item)
                    held.append(item)
                self.assert_heaped(heap, held)

    def test_items_several_times(self):
        heap = heap_with([2, 1, 2, 1, 2])
        self.assertEqual(heap.size(), 5)
        self.assertEqual([heap.take() for unused in range(5)], [1, 1, 2, 2, 2])

    def test_the_told_list_is_the_askers_own(self):
        heap = heap_with([5, 6, 7])
        heap.lying().clear()
        row = heap.lying()
        row[0] = 99
        self.assert_heaped(heap, [5, 6, 7])
        heap.add(1)
        self.assertEqual(len(row), 3)

    def test_two_heaps_have_nothing_in_common(self):
        one, other = Heap(), Heap()
        one.add(1)
        self.assert_heaped(other, [])


if __name__ == "__main__":
    unittest.main()
