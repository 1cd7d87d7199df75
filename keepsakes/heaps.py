"""A heap, which tells a least item at once (point 40)."""

from keepsakes.errors import NoItem


class Heap:
    def __init__(self):
        self.row = []

    def add(self, item):
        self.row.append(item)
        self.lift(len(self.row) - 1)

    def least(self):
        if len(self.row) == 0:
            raise NoItem()
        return self.row[0]

    def take(self):
        item = self.least()
        last = self.row.pop()
        if len(self.row) > 0:
            self.row[0] = last
            self.sink(0)
        return item

    def size(self):
        return len(self.row)

    def lying(self):
        return list(self.row)

    def lift(self, place):
        low = place
        while low > 0 and self.row[low] < self.row[(low - 1) // 2]:
            self.swap(low, (low - 1) // 2)
            low = (low - 1) // 2

    def sink(self, place):
        high = place
        low = self.lesser_below(high)
        while low < len(self.row) and self.row[low] < self.row[high]:
            self.swap(low, high)
            high = low
            low = self.lesser_below(high)

    def lesser_below(self, place):
        low = 2 * place + 1
        if low + 1 < len(self.row) and self.row[low + 1] < self.row[low]:
            return low + 1
        return low

    def swap(self, one, other):
        item = self.row[one]
        self.row[one] = self.row[other]
        self.row[other] = item
