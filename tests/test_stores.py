"""Points 90 to 97: a store with three shelves, two of which lag."""

import itertools
import unittest

from helping import Draw, Refusing, W, told_of

from keepsakes.days import Days
from keepsakes.errors import Lost, NoBase, NoBlock, NoDay, NoPiece, NoPlace, NoShelf, NoTable, NoWord
from keepsakes.least import legs_of, prices, rate
from keepsakes.mending import joined
from keepsakes.pieces import gain_of, whole_of
from keepsakes.rules import AnyOf, Apart, LastFew, OneOfEach, Rule, Sealed
from keepsakes.shelves import Shelf
from keepsakes.stores import Store

NO_SHELVES = (-1, 3, 4, -3, 10 ** 20)
KEEP_ALL = LastFew(400)


def lies(store, shelf):
    return [(number, told_of(store.piece(shelf, number))) for number in store.numbers(shelf)]


def all_of(store):
    """All that can be asked of a store."""
    shelves = [lies(store, shelf) for shelf in range(3)]
    legs = [store.legs(some) for some in (None, [0], [1], [2], [2, 1])]
    return (store.today(), store.deeds(), store.marks(), shelves, legs, [store.reach(shelf) for shelf in range(3)])


def filled(rule=KEEP_ALL, seek=10, each=1):
    """Days 0 to 6 of three blocks, and the pieces 0 to 5 on shelf 0."""
    store = Store(3, rule, seek, each)
    days = Days(3)
    for day, word in enumerate(("whole", "last", "since", None, "last", "whole", "since")):
        if day > 0:
            changes = [(day % 3, 10 + day), (0, day)]
            store.passes(changes)
            days.passes(changes)
        if word:
            store.keep(word)
    return (store, days)


class Passing(Refusing):
    def test_a_new_store(self):
        for wide in (1, 3, 40):
            store = Store(wide, Rule(), 0, 0)
            self.assertEqual((store.today(), store.deeds(), store.marks()), (0, 0, (0, 0, 0)))
            self.assertIs(type(store.marks()), tuple)
            self.assertEqual([store.numbers(shelf) for shelf in range(3)], [[], [], []])
            self.assertEqual([store.reach(shelf) for shelf in range(3)], [None, None, None])
            self.assertEqual(store.legs(), [])

    def test_no_table(self):
        for wide in (0, -1, 41, 1000):
            self.assert_refused(NoTable(wide), Store, wide, Rule(), 1, 1)

    def test_days_pass(self):
        store = Store(2, Rule(), 1, 1)
        self.assertEqual(store.passes([(0, 5), (1, 6), (0, 7)]), 1)
        self.assertEqual(store.passes([]), 2)
        self.assertEqual(store.today(), 2)
        store.keep("whole")
        self.assertEqual(store.fetch(2), [7, 6])
        self.assertEqual(store.deeds(), 1)

    def test_days_refused(self):
        store = Store(2, Rule(), 1, 1)
        self.assert_refused(NoPlace(2), store.passes, [(0, 1), (2, W + 1)])
        self.assert_refused(NoPlace(-1), store.passes, [(-1, 1)])
        self.assert_refused(NoBlock(-1), store.passes, [(0, -1), (2, 0)])
        self.assert_refused(NoBlock(W + 1), store.passes, [(1, W + 1)])
        self.assertEqual(store.today(), 0)
        self.assertEqual(store.passes([(1, W)]), 1)
        store.keep("whole")
        self.assertEqual(store.fetch(1), [0, W])

    def test_the_askers_list_changed_afterwards(self):
        store, changes = Store(2, Rule(), 1, 1), [(0, 5)]
        store.passes(changes)
        changes[0] = (1, 9)
        changes.append((0, 0))
        store.keep("whole")
        self.assertEqual(store.fetch(1), [5, 0])


class Keeping(Refusing):
    def test_by_each_word(self):
        store, days = filled()
        told = [whole_of(days, 0), gain_of(days, 0, 1), gain_of(days, 0, 2), gain_of(days, 2, 4), whole_of(days, 5),
                gain_of(days, 5, 6)]
        self.assertEqual(lies(store, 0), [(number, told_of(piece)) for number, piece in enumerate(told)])
        self.assertEqual((store.deeds(), store.marks()), (6, (6, 0, 0)))

    def test_numbers_are_told(self):
        store = Store(2, Rule(), 1, 1)
        self.assertEqual([store.keep("whole") for unused in range(3)], [0, 1, 2])
        store.passes([])
        self.assertEqual((store.keep("since"), store.keep("since"), store.keep("whole")), (3, 4, 5))

    def test_no_word(self):
        store = filled()[0]
        before = all_of(store)
        for word in ("", "Whole", "whole ", " last", "none", "gain", "sinc", "0", "whole since"):
            self.assert_refused(NoWord(word), store.keep, word)
            self.assert_refused(NoWord(word), Store(1, Rule(), 1, 1).keep, word)
        self.assertEqual(all_of(store), before)

    def test_no_base_on_an_empty_shelf(self):
        store = Store(2, Rule(), 1, 1)
        for day in range(3):
            for word in ("since", "last"):
                self.assert_refused(NoBase(None, day), store.keep, word)
            store.passes([(0, day)])
        self.assertEqual((store.deeds(), store.numbers(0)), (0, []))

    def test_the_base_is_today(self):
        store = Store(2, Rule(), 1, 1)
        store.passes([])
        store.keep("whole")
        self.assert_refused(NoBase(1, 1), store.keep, "since")
        self.assert_refused(NoBase(1, 1), store.keep, "last")
        store.passes([(0, 3)])
        store.keep("since")
        self.assert_refused(NoBase(2, 2), store.keep, "last")
        self.assertEqual(store.keep("since"), 2)
        self.assertEqual((store.deeds(), store.piece(0, 2).base), (3, 1))

    def test_bad_whole_pieces_are_no_base(self):
        store, days = filled()
        store.passes([(1, 1)])
        days.passes([(1, 1)])
        store.harm(0, 4, 2, 5)
        self.assertEqual(told_of(store.piece(0, store.keep("since"))), told_of(gain_of(days, 0, 7)))
        store.harm(0, 0, 0, 1)
        self.assert_refused(NoBase(None, 7), store.keep, "since")
        self.assert_refused(NoBase(None, 7), store.keep, "last")

    def test_days_that_are_not_well_reached_are_no_base(self):
        store, days = filled()
        store.passes([(1, 1)])
        days.passes([(1, 1)])
        store.harm(0, 5, 0, 1)
        self.assertEqual(told_of(store.piece(0, store.keep("last"))), told_of(gain_of(days, 5, 7)))
        store.passes([(1, 2)])
        days.passes([(1, 2)])
        store.harm(0, 4, 0, 1)
        self.assertEqual(told_of(store.piece(0, store.keep("last"))), told_of(gain_of(days, 4, 8)))

    def test_shelf_0_alone_tells_the_base(self):
        store = Store(2, Rule(), 1, 1)
        store.keep("whole")
        store.carry(1, 1)
        store.harm(0, 0, 0, 1)
        store.passes([])
        self.assert_refused(NoBase(None, 1), store.keep, "since")
        self.assert_refused(NoBase(None, 1), store.keep, "last")


class Lagging(Refusing):
    def test_fewer_as_many_and_more_than_are_left(self):
        store = filled()[0]
        told = lies(store, 0)
        self.assertEqual(store.carry(1, 0), 0)
        self.assertEqual((store.marks(), lies(store, 1)), ((6, 0, 0), []))
        self.assertEqual(store.carry(1, 2), 2)
        self.assertEqual((store.marks(), lies(store, 1)), ((6, 2, 0), told[:2]))
        self.assertEqual(store.carry(2, 6), 6)
        self.assertEqual((store.marks(), lies(store, 2)), ((6, 2, 6), told))
        self.assertEqual(store.carry(1, 10 ** 20), 4)
        self.assertEqual((store.marks(), lies(store, 1)), ((6, 6, 6), told))
        for shelf in range(3):
            for many in (0, 1, 10 ** 20):
                self.assertEqual(store.carry(shelf, many), 0)
        self.assertEqual((store.marks(), store.deeds()), ((6, 6, 6), 6))

    def test_on_shelf_0(self):
        store = filled()[0]
        before = all_of(store)
        for many in (0, 1, 7):
            self.assertEqual(store.carry(0, many), 0)
        self.assertEqual(all_of(store), before)

    def test_a_put_brings_the_piece_as_it_was(self):
        store = filled()[0]
        told = lies(store, 0)
        store.harm(0, 0, 0, 1)
        store.harm(0, 3, 1, W)
        store.carry(1, 2)
        store.carry(2, 9)
        self.assertEqual(lies(store, 1), told[:2])
        self.assertEqual(lies(store, 2), told)
        self.assertEqual([number for number in range(6) if not store.piece(0, number).is_good()], [0, 3])

    def test_no_shelf(self):
        store = filled()[0]
        before = all_of(store)
        for shelf in NO_SHELVES:
            for many in (0, 1, 9):
                self.assert_refused(NoShelf(shelf), store.carry, shelf, many)
            self.assert_refused(NoShelf(shelf), store.numbers, shelf)
            self.assert_refused(NoShelf(shelf), store.reach, shelf)
            for number in (0, 1, -1, 99):
                self.assert_refused(NoShelf(shelf), store.piece, shelf, number)
        self.assertEqual(all_of(store), before)

    def test_no_piece(self):
        store = filled()[0]
        store.carry(1, 2)
        for shelf, number in ((0, 6), (0, -1), (1, 2), (2, 0), (0, 10 ** 20)):
            self.assert_refused(NoPiece(number), store.piece, shelf, number)

    def test_what_is_told_is_the_askers_own(self):
        store = filled()[0]
        before = all_of(store)
        store.numbers(0).append(9)
        store.legs().clear()
        store.fetch(6).clear()
        store.heal(0, 1).append(7)
        self.assertEqual(all_of(store), before)

    def test_reach(self):
        store = filled()[0]
        self.assertEqual([store.reach(shelf) for shelf in range(3)], [6, None, None])
        store.carry(1, 3)
        store.carry(2, 4)
        self.assertEqual([store.reach(shelf) for shelf in range(3)], [6, 2, 4])
        store.harm(0, 5, 0, 1)
        store.harm(1, 0, 0, 1)
        store.harm(2, 2, 0, 1)
        self.assertEqual([store.reach(shelf) for shelf in range(3)], [5, None, 1])

    def test_day_0_is_reached(self):
        store = Store(1, Rule(), 1, 1)
        store.keep("whole")
        self.assertEqual([store.reach(shelf) for shelf in range(3)], [0, None, None])


class Seals(Refusing):
    def test_reached_days(self):
        store = filled(LastFew(1))[0]
        before = all_of(store)
        self.assertIsNone(store.seal(4))
        self.assertIsNone(store.seal(0))
        self.assertIsNone(store.seal(4))
        self.assertEqual(all_of(store), before)
        self.assertEqual(store.tidy()[0], [0, 4, 6])
        store.passes([])
        store.keep("last")
        self.assertEqual(store.tidy()[0], [0, 4, 7])
        store.seal(7)
        store.passes([])
        store.keep("whole")
        self.assertEqual(store.tidy()[0], [0, 4, 7, 8])

    def test_days_reached_over_bad_pieces(self):
        store = filled(Rule())[0]
        for number in range(6):
            store.harm(0, number, 0, 1)
        store.seal(4)
        self.assertEqual(store.tidy(), ([4], [1, 4, 5], []))

    def test_no_day(self):
        store = filled(Rule())[0]
        store.passes([])
        for day in (3, 7, 8, -1, -5, 10 ** 20):
            self.assert_refused(NoDay(day), store.seal, day)
        self.assertEqual(store.tidy()[0], [])
        for day in range(8):
            self.assert_refused(NoDay(day), store.seal, day)

    def test_shelf_0_alone_is_asked(self):
        store = filled(Rule())[0]
        store.carry(1, 6)
        store.tidy()
        self.assertEqual((store.reach(1), store.numbers(1)), (6, [0, 1, 2, 3, 4, 5]))
        self.assert_refused(NoDay(6), store.seal, 6)

    def test_the_rule_that_is_handed_in_stays(self):
        rule = AnyOf([LastFew(1), Sealed([2])])
        one, other = filled(rule)[0], filled(rule)[0]
        one.seal(4)
        self.assertEqual(one.tidy()[0], [2, 4, 6])
        self.assertEqual(other.tidy()[0], [2, 6])
        self.assertEqual(rule.picks([2, 4, 6]), [2, 6])


class Tidying(Refusing):
    def test_nothing_lies_there(self):
        store = Store(2, LastFew(3), 1, 1)
        self.assertEqual(store.tidy(), ([], [], []))
        self.assertEqual((store.deeds(), store.marks()), (0, (0, 0, 0)))

    def test_nothing_is_wanted(self):
        store = filled(Rule())[0]
        self.assertEqual(store.tidy(), ([], [0, 1, 2, 3, 4, 5], []))
        self.assertEqual((store.deeds(), store.numbers(0)), (12, []))
        self.assertEqual(store.tidy(), ([], [], []))
        self.assertEqual((store.deeds(), store.keep("whole")), (12, 6))

    def test_written_out(self):
        # Of 0, 2 and 3, over days 0 and 2 to day 4, comes the whole piece 7; 1, 4 and 5 are thrown away.
        store, days = filled(Sealed([4]))
        told = store.tidy()
        self.assertEqual(told, ([4], [1, 4, 5], [(0, 2, 6), (6, 3, 7)]))
        self.assertEqual([type(part) for part in told], [list] * 3)
        self.assertEqual(lies(store, 0), [(7, told_of(whole_of(days, 4)))])
        self.assertEqual(store.marks(), (15, 0, 0))
        self.assertEqual(store.tidy(), ([4], [], []))
        self.assertEqual(store.marks(), (15, 0, 0))

    def test_the_deeds_in_their_order(self):
        store, days = filled(Sealed([4]))
        before = dict(lies(store, 0))
        store.tidy()
        before.update({6: told_of(whole_of(days, 2)), 7: told_of(whole_of(days, 4))})
        numbers = [[0], [0, 1], [0, 1, 2], [0, 1, 2, 3], [0, 1, 2, 3, 4], [0, 1, 2, 3, 4, 5], [0, 2, 3, 4, 5],
                   [0, 2, 3, 5], [0, 2, 3], [0, 2, 3, 6], [2, 3, 6], [3, 6], [3, 6, 7], [3, 7], [7]]
        for at, lying in enumerate(numbers):
            self.assertEqual(store.carry(1, 1), 1)
            self.assertEqual(lies(store, 1), [(number, before[number]) for number in lying])
            self.assertEqual(store.marks(), (15, at + 1, 0))
        self.assertEqual(store.carry(2, 100), 15)
        self.assertEqual(lies(store, 2), lies(store, 0))
        store.passes([])
        self.assertEqual(store.keep("last"), 8)
        store.carry(1, 1)
        self.assertEqual(lies(store, 1), lies(store, 0))

    def test_bad_pieces_are_not_folded(self):
        store, days = filled(Sealed([4]))
        store.harm(0, 2, 0, 1)
        self.assertEqual(store.tidy(), ([4], [1, 4, 5], []))
        self.assertEqual(store.numbers(0), [0, 2, 3])
        store.carry(1, 20)
        self.assertTrue(store.piece(1, 2).is_good())
        self.assertEqual(store.heal(0, 1), [2])
        self.assertEqual(store.tidy(), ([4], [], [(0, 2, 6), (6, 3, 7)]))
        self.assertEqual(store.fetch(4, [0]), days.table(4))

    def test_by_the_stores_cost(self):
        # Day 2 is told by 0 and 2 or by 1 and 3, which have fewer rows; where rows cost nothing the numbers tell.
        for seek, each, told in ((7, 1, ([2], [0, 2], [(1, 3, 4)])), (0, 1, ([2], [0, 2], [(1, 3, 4)])),
                                 (7, 0, ([2], [1, 3], [(0, 2, 4)])), (0, 0, ([2], [1, 3], [(0, 2, 4)]))):
            store = Store(3, Sealed([2]), seek, each)
            store.keep("whole")
            store.passes([(0, 1), (1, 1)])
            store.keep("whole")
            store.passes([(2, 5)])
            store.harm(0, 1, 0, 8)
            store.keep("since")
            store.harm(0, 1, 0, 8)
            store.keep("since")
            self.assertEqual(store.tidy(), told)

    def test_rules_of_each_kind(self):
        for rule, wanted in ((LastFew(2), [5, 6]), (OneOfEach(4), [0, 4]), (OneOfEach(2, 2), [4, 6]),
                             (Apart(3), [0, 4]), (Sealed([2, 3]), [2]), (AnyOf([LastFew(1), Sealed([1])]), [1, 6]),
                             (AnyOf([]), [])):
            store, days = filled(rule)
            self.assertEqual(store.tidy()[0], wanted)
            for day in wanted:
                self.assertEqual(store.fetch(day), days.table(day))
            self.assertLessEqual(len(store.numbers(0)), max(0, 2 * len(wanted) - 1))

    def test_shelves_that_lag_are_as_shelf_0_was(self):
        draw = Draw(94)
        for unused in range(12):
            store, was = Store(3, AnyOf([LastFew(2), OneOfEach(5, 3)]), draw.randrange(3), 1), [[]]
            for unused_too in range(25):
                store.passes([(draw.randrange(3), draw.randrange(W)) for change in range(draw.randrange(3))])
                for word in ("whole", "since", "last"):
                    if draw.randrange(3) == 0:
                        self.keep_if_there_is_a_base(store, word)
                if draw.randrange(3) == 0:
                    store.tidy()
                for mark in range(store.marks()[1], store.deeds()):
                    store.carry(1, 1)
                    was.append(lies(store, 1))
                self.assertEqual(lies(store, 1), lies(store, 0))
                store.carry(2, draw.randrange(4))
                self.assertEqual(lies(store, 2), was[store.marks()[2]])

    def keep_if_there_is_a_base(self, store, word):
        try:
            store.keep(word)
        except NoBase:
            pass


class Harm(Refusing):
    def test_on_one_shelf_alone(self):
        store = filled()[0]
        store.carry(1, 6)
        store.carry(2, 3)
        told = lies(store, 0)
        self.assertIsNone(store.harm(1, 1, 0, 6))
        self.assertEqual((lies(store, 0), lies(store, 2)), (told, told[:3]))
        self.assertEqual([row for row in lies(store, 1) if row[0] != 1], [row for row in told if row[0] != 1])
        self.assertEqual(told_of(store.piece(1, 1)), told_of(store.piece(0, 1).harmed(0, 6)))
        self.assertEqual((store.deeds(), store.marks()), (6, (6, 6, 3)))
        store.harm(1, 1, 0, 6)
        self.assertEqual(lies(store, 1), told)

    def test_bits_of_0(self):
        store = filled()[0]
        before = all_of(store)
        store.harm(0, 0, 2, 0)
        self.assertEqual(all_of(store), before)

    def test_the_first_refusal(self):
        store = filled()[0]
        store.carry(1, 2)
        before = all_of(store)
        for shelf in NO_SHELVES:
            self.assert_refused(NoShelf(shelf), store.harm, shelf, 99, 99, 1)
            self.assert_refused(NoShelf(shelf), store.harm, shelf, 0, 0, 1)
        for shelf, number in ((0, 6), (0, -1), (1, 2), (2, 0)):
            self.assert_refused(NoPiece(number), store.harm, shelf, number, 99, 1)
            self.assert_refused(NoPiece(number), store.harm, shelf, number, 0, 1)
        for at in (-1, 3, 99):
            self.assert_refused(NoPlace(at), store.harm, 0, 0, at, 1)
        self.assert_refused(NoPlace(2), store.harm, 1, 1, 2, 0)
        self.assertEqual(all_of(store), before)

    def test_the_number_that_follows_stays(self):
        store = filled()[0]
        store.harm(0, 2, 0, 1)
        self.assertEqual(store.keep("whole"), 6)


class Healing(Refusing):
    def test_by_another_shelf(self):
        store = filled()[0]
        told = lies(store, 0)
        store.carry(1, 4)
        for number in (5, 3, 1, 0):
            store.harm(0, number, 0, 1)
        store.harm(1, 1, 0, 1)
        one = lies(store, 1)
        self.assertEqual(store.heal(0, 1), [0, 3])
        self.assertEqual((lies(store, 1), store.marks()), (one, (6, 4, 0)))
        self.assertEqual([number for number in range(6) if not store.piece(0, number).is_good()], [1, 5])
        store.carry(2, 6)
        self.assertEqual(store.heal(0, 2), [1, 5])
        self.assertEqual(store.heal(1, 0), [1])
        self.assertEqual((lies(store, 0), lies(store, 1)), (told, told[:4]))
        self.assertEqual(store.heal(0, 2), [])
        self.assertEqual(store.keep("whole"), 6)

    def test_by_itself(self):
        store = filled()[0]
        store.carry(1, 6)
        for shelf in (0, 1, 2):
            if shelf < 2:
                store.harm(shelf, 3, 0, 1)
            before = all_of(store)
            self.assertEqual(store.heal(shelf, shelf), [])
            self.assertEqual(all_of(store), before)

    def test_no_shelf(self):
        store = filled()[0]
        before = all_of(store)
        for one, other in itertools.product(NO_SHELVES + (0, 1, 2), repeat=2):
            bad = [shelf for shelf in (one, other) if shelf in NO_SHELVES]
            if bad:
                self.assert_refused(NoShelf(bad[0]), store.heal, one, other)
        self.assertEqual(all_of(store), before)

    def test_healed_shelves_carry_on(self):
        store, days = filled(LastFew(1))
        store.carry(1, 3)
        store.harm(1, 0, 0, 1)
        self.assertEqual(store.heal(1, 0), [0])
        store.tidy()
        store.carry(1, 100)
        self.assertEqual(lies(store, 1), lies(store, 0))


class Several(Refusing):
    def harmed(self):
        """Shelf 1 has the pieces 0 to 3, shelf 2 has 0 and 1; 0 is bad on shelf 0, 1 on 0 and 2, 3 on shelf 1."""
        store, days = filled()
        store.carry(1, 4)
        store.carry(2, 2)
        for shelf, number in ((0, 0), (0, 1), (2, 1), (1, 3)):
            store.harm(shelf, number, 0, 1)
        return (store, days)

    def test_legs(self):
        store = self.harmed()[0]
        self.assertEqual(store.legs([2]), [(0, -1, 0, 0, 13), (1, 0, 1, 1, 12)])
        self.assertEqual(store.legs([1]), [(0, -1, 0, 0, 13), (1, 0, 1, 0, 12), (2, 0, 2, 0, 13), (3, 2, 4, 1, 12)])
        self.assertEqual(store.legs([0]), [(0, -1, 0, 1, 13), (1, 0, 1, 1, 12), (2, 0, 2, 0, 13), (3, 2, 4, 0, 12),
                                           (4, -1, 5, 0, 13), (5, 5, 6, 0, 11)])
        self.assertEqual(store.legs([2, 0])[:2], [(0, -1, 0, 0, 13), (1, 0, 1, 1, 12)])
        self.assertTrue(all(leg[3] == 0 for leg in store.legs()))

    def test_against_the_joined_shelf(self):
        store = self.harmed()[0]
        shelves = []
        for shelf in range(3):
            shelves.append(Shelf())
            for number in store.numbers(shelf):
                shelves[-1].lay(number, store.piece(shelf, number))
        for many in range(4):
            for some in itertools.product(range(3), repeat=many):
                told = legs_of(joined([shelves[shelf] for shelf in some]), rate(10, 1))
                handed = list(some)
                self.assertEqual(store.legs(handed), told)
                self.assertEqual(store.legs(some=handed), told)
                self.assertEqual(handed, list(some))
        self.assertEqual(store.legs(), store.legs([0, 1, 2]))
        self.assertEqual(store.legs(None), store.legs([0, 1, 2]))

    def test_tables(self):
        store, days = self.harmed()
        for day in (0, 1, 2, 4, 5, 6):
            for some in (None, [0, 1, 2], [2, 1, 0], [1, 0], [0, 1, 0, 1]):
                self.assertEqual(store.fetch(day, some), days.table(day))
            self.assertEqual(store.fetch(day), days.table(day))
            self.assertEqual(store.fetch(day, some=[0, 1]), days.table(day))
        self.assertEqual(store.fetch(0, [2]), days.table(0))
        self.assertEqual(store.fetch(4, [2, 0, 0]), days.table(4))

    def test_lost_and_gone(self):
        store = self.harmed()[0]
        self.assert_refused(Lost(0, [[0]]), store.fetch, 0, [0])
        self.assert_refused(Lost(1, [[0], [1]]), store.fetch, 1, [0])
        self.assert_refused(Lost(1, [[1]]), store.fetch, 1, [0, 2])
        self.assert_refused(Lost(1, [[1]]), store.fetch, 1, [2])
        self.assert_refused(Lost(4, [[3]]), store.fetch, 4, [1, 2, 1])
        self.assert_refused(NoDay(5), store.fetch, 5, [1, 2])
        self.assert_refused(NoDay(3), store.fetch, 3)
        self.assert_refused(NoDay(7), store.fetch, 7, [0])
        self.assert_refused(NoDay(0), store.fetch, 0, [])
        self.assertEqual(store.legs([]), [])

    def test_no_shelf(self):
        store = self.harmed()[0]
        before = all_of(store)
        for some, bad in (([3], 3), ([-1], -1), ([0, 1, 2, 3], 3), ([0, 7, -1], 7), ([-1, 7], -1), ([2, 2, -4, 0], -4)):
            self.assert_refused(NoShelf(bad), store.legs, some)
            for day in (0, 1, 3, 99):
                self.assert_refused(NoShelf(bad), store.fetch, day, some)
        self.assertEqual(all_of(store), before)

    def test_no_greater_price_together(self):
        store = self.harmed()[0]
        for many in range(1, 4):
            for some in itertools.product(range(3), repeat=many):
                together = prices(store.legs(list(some)))
                for shelf in some:
                    for day, price in prices(store.legs([shelf])).items():
                        self.assertLessEqual(together[day], price)

    def test_two_stores_have_nothing_in_common(self):
        one, other = filled()[0], filled()[0]
        before = all_of(other)
        one.passes([(0, 9)])
        one.keep("whole")
        one.carry(1, 3)
        one.harm(0, 0, 0, 1)
        one.tidy()
        self.assertEqual(all_of(other), before)

    def test_great_costs(self):
        store = filled(KEEP_ALL, 10 ** 24, 10 ** 24)[0]
        self.assertEqual(store.legs()[0], (0, -1, 0, 0, 4 * 10 ** 24))


if __name__ == "__main__":
    unittest.main()
