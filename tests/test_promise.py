"""Point 7: days, pieces, rules, shelves, harm and healing in any order, drawn by the test's own arithmetic."""

import itertools
import unittest

from helping import Draw, Refusing, W, priced_in_rounds

from keepsakes.days import Days
from keepsakes.errors import Lost, NoBase, NoDay
from keepsakes.least import way_of
from keepsakes.mending import answer
from keepsakes.papers import holds, paper
from keepsakes.rules import AnyOf, Apart, LastFew, OneOfEach, Rule, Sealed
from keepsakes.stores import Store


class Kept:
    """A store, and beside it what must be so: the row of days, the days on which pieces were made, and the seals."""

    def __init__(self, draw, wide, rule):
        self.draw = draw
        self.rule = rule
        self.store = Store(wide, rule, draw.randrange(12), draw.randrange(4))
        self.days = Days(wide)
        self.brought = {}
        self.sealed = []
        self.harmed = {}
        self.told = {"well": 0, "lost": 0, "gone": 0, "thrown": 0, "folded": 0, "healed": 0}

    def wanted(self):
        return AnyOf([self.rule, Sealed(self.sealed)]).picks(sorted(self.brought))

    def pass_a_day(self):
        changes = [(self.draw.randrange(self.days.wide), self.draw.choice((0, W, self.draw.randrange(50))))
                   for unused in range(self.draw.randrange(3))]
        assert self.store.passes(changes) == self.days.passes(changes)

    def keep(self):
        try:
            self.store.keep(self.draw.choice(("whole", "since", "since", "last", "last", "last")))
        except NoBase:
            return
        self.brought[self.store.today()] = self.store.deeds()

    def seal(self):
        day = self.draw.randrange(self.store.today() + 1)
        try:
            self.store.seal(day)
        except NoDay:
            return
        self.sealed.append(day)

    def carry(self):
        self.store.carry(self.draw.randrange(3), self.draw.choice((0, 1, 4, 40, 300)))

    def harm(self):
        """In no copy of a piece more than one block is harmed, until it is healed."""
        shelf = self.draw.randrange(3)
        numbers = self.store.numbers(shelf)
        if not numbers:
            return
        number = self.draw.choice(numbers)
        size = self.store.piece(shelf, number).size()
        if size:
            at = self.harmed.setdefault((shelf, number), self.draw.randrange(size))
            self.store.harm(shelf, number, at, self.draw.choice((0, 1, 1, W, self.draw.randrange(W))))

    def heal(self):
        # Shelves that were harmed are drawn, so that there is often something to heal.
        shelf = self.draw.choice(sorted({one for one, number in self.harmed}) or [0])
        healed = self.store.heal(shelf, self.draw.randrange(3))
        for number in healed:
            self.harmed.pop((shelf, number))
        self.told["healed"] += len(healed)


class Promise(Refusing):
    def test_in_drawn_orders(self):
        rules = (LastFew(3), OneOfEach(4, 3), Apart(5), AnyOf([LastFew(1), OneOfEach(7)]), Rule(),
                 AnyOf([LastFew(2), OneOfEach(3, 2), OneOfEach(10), Sealed([3, 4, 50])]), LastFew(400), OneOfEach(9))
        told = {}
        for seed, rule in enumerate(rules * 2):
            draw = Draw(700 + seed)
            kept = Kept(draw, 1 + seed % 5, rule)
            for unused in range(90):
                self.step(kept, draw)
                self.assert_shelves(kept, draw)
                self.assert_wanted(kept)
            for kind, many in kept.told.items():
                told[kind] = told.get(kind, 0) + many
        self.assertGreater(min(told.values()), 30, told)

    def step(self, kept, draw):
        step = draw.randrange(20)
        if step < 6:
            kept.pass_a_day()
        if step < 8:
            kept.keep()
        elif step == 8:
            kept.seal()
        elif step < 11:
            wanted = kept.wanted()
            told = kept.store.tidy()
            self.assertEqual(told[0], wanted)
            kept.told["thrown"] += len(told[1])
            kept.told["folded"] += len(told[2])
        elif step < 14:
            kept.carry()
        elif step < 17:
            kept.harm()
        else:
            kept.heal()

    def assert_shelves(self, kept, draw):
        some = draw.choice((None, [], [0], [1], [2], [0, 1], [2, 1], [0, 2, 0], [2, 0, 1]))
        legs = kept.store.legs(some)
        priced = priced_in_rounds(legs)
        for day in range(kept.store.today() + 2):
            self.assert_day(kept, some, legs, priced, day)
        for shelf in (0, 1, 2) if some is None else some:
            for day, price in priced_in_rounds(kept.store.legs([shelf])).items():
                self.assertLessEqual(priced[day], price)

    def assert_day(self, kept, some, legs, priced, day):
        told = answer(legs, day)
        kept.told[told[0]] += 1
        if day not in priced:
            self.assertEqual(told, ("gone", sorted(priced)))
            self.assert_refused(NoDay(day), kept.store.fetch, day, some)
            return
        self.assertTrue(holds(legs, day, paper(legs, day)))
        self.assert_least(legs, told[1], priced[day])
        self.assertEqual(told[1], way_of(legs, day))
        if priced[day][0] == 0:
            self.assertEqual(told[0], "well")
            self.assertEqual(kept.store.fetch(day, some), kept.days.table(day))
            return
        self.assertEqual(told[0], "lost")
        self.assert_refused(Lost(day, told[2]), kept.store.fetch, day, some)
        self.assert_cuts(legs, day, told[2], priced[day][0])

    def assert_least(self, legs, way, price):
        by_number = {leg[0]: leg for leg in legs}
        gone = [by_number[number] for number in way]
        self.assertEqual((sum(leg[3] for leg in gone), sum(leg[4] for leg in gone), len(gone)), price)

    def assert_cuts(self, legs, day, cuts, many):
        self.assertEqual(len(cuts), many)
        listed = list(itertools.chain(*cuts))
        self.assertEqual(len(listed), len(set(listed)))
        bad = {leg[0] for leg in legs if leg[3] == 1}
        for cut in cuts:
            self.assertTrue(bad.issuperset(cut))
            # A way that goes over no piece of the cut would be left where the cut is taken away.
            self.assertNotIn(day, priced_in_rounds([leg for leg in legs if leg[0] not in cut]))

    def assert_wanted(self, kept):
        marks = kept.store.marks()
        ways = [priced_in_rounds(kept.store.legs([shelf])) for shelf in range(3)]
        for day, shelf in itertools.product(kept.wanted(), range(3)):
            if marks[shelf] >= kept.brought[day]:
                self.assertIn(day, ways[shelf])

    def test_a_long_row(self):
        draw = Draw(777)
        kept = Kept(draw, 3, AnyOf([LastFew(4), OneOfEach(10, 5), OneOfEach(60)]))
        for day in range(1, 301):
            kept.pass_a_day()
            kept.keep()
            if day % 7 == 0:
                wanted = kept.wanted()
                self.assertEqual(kept.store.tidy()[0], wanted)
            kept.store.carry(1, draw.randrange(5))
            if day % 50 == 0:
                kept.store.carry(2, 1000)
            if day % 5 == 0:
                kept.harm()
                kept.heal()
            if day % 11 == 0:
                self.assert_shelves(kept, draw)
                self.assert_wanted(kept)
        self.assertEqual(kept.store.today(), 300)


if __name__ == "__main__":
    unittest.main()
