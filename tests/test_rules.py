"""Points 50 to 54: rules that pick days."""

import random
import unittest

from helping import Refusing

from keepsakes.errors import NoRule
from keepsakes.rules import AnyOf, Apart, LastFew, OneOfEach, Rule, Sealed

DAYS = [0, 1, 2, 5, 9, 10, 14, 27, 28, 10 ** 9]
GREAT = 10 ** 29


def rules_by_chance(chance, deep=3):
    rules = [Rule(), LastFew(chance.randrange(6)), OneOfEach(chance.randrange(1, 9)), Apart(chance.randrange(1, 9)),
             OneOfEach(chance.randrange(1, 9), chance.randrange(5)),
             Sealed([chance.randrange(40) for unused in range(chance.randrange(6))])]
    if deep:
        rules.append(AnyOf(chance.sample(rules_by_chance(chance, deep - 1), chance.randrange(4))))
    return rules


def days_by_chance(chance):
    return sorted(chance.sample(range(40), chance.randrange(15)))


class Picking(Refusing):
    def assert_picks(self, rule, days, told):
        handed = list(days)
        for unused in range(2):
            picked = rule.picks(handed)
            self.assertIs(type(picked), list)
            self.assertEqual(picked, told)
            self.assertEqual(handed, days)
            # What is told is the asker's own, and another list asked in between leaves nothing behind.
            picked.append(77)
            self.assertEqual(handed, days)
            rule.picks([3, 4, 33])
            rule.picks([])


class Kinds(unittest.TestCase):
    def test_all_are_rules(self):
        for rule in (LastFew(1), OneOfEach(1), Apart(1), Sealed([]), AnyOf([])):
            self.assertIsInstance(rule, Rule)


class NoKind(Picking):
    def test_it_picks_no_day(self):
        for days in ([], [0], DAYS):
            self.assert_picks(Rule(), days, [])


class Last(Picking):
    def test_lists_shorter_and_longer(self):
        for many in range(15):
            for long in range(len(DAYS) + 1):
                days = DAYS[:long]
                self.assert_picks(LastFew(many), days, [day for at, day in enumerate(days) if long - at <= many])

    def test_edges(self):
        self.assert_picks(LastFew(0), DAYS, [])
        self.assert_picks(LastFew(0), [], [])
        self.assert_picks(LastFew(1), DAYS, [10 ** 9])
        self.assert_picks(LastFew(10), DAYS, DAYS)
        self.assert_picks(LastFew(9), DAYS, DAYS[1:])
        self.assert_picks(LastFew(GREAT), DAYS, DAYS)
        self.assert_picks(LastFew(399), list(range(400)), list(range(1, 400)))

    def test_refused(self):
        for many in (-1, -2, -GREAT):
            self.assert_refused(NoRule(many), LastFew, many)


class Each(Picking):
    def test_spans(self):
        self.assert_picks(OneOfEach(1), DAYS, DAYS)
        self.assert_picks(OneOfEach(5), DAYS, [0, 5, 10, 27, 10 ** 9])
        self.assert_picks(OneOfEach(10), DAYS, [0, 10, 27, 10 ** 9])
        self.assert_picks(OneOfEach(10 ** 9), DAYS, [0, 10 ** 9])
        self.assert_picks(OneOfEach(10 ** 9 + 1), DAYS, [0])
        self.assert_picks(OneOfEach(GREAT), DAYS, [0])
        self.assert_picks(OneOfEach(7), [6, 7, 13, 14, 20, 21], [6, 7, 14, 21])
        self.assert_picks(OneOfEach(3), [], [])

    def test_the_last_so_many_spans(self):
        self.assert_picks(OneOfEach(5, None), DAYS, [0, 5, 10, 27, 10 ** 9])
        for many in range(8):
            self.assert_picks(OneOfEach(5, many), DAYS, [0, 5, 10, 27, 10 ** 9][max(0, 5 - many):])
        self.assert_picks(OneOfEach(1, 0), DAYS, [])
        self.assert_picks(OneOfEach(1, 3), DAYS, DAYS[-3:])
        self.assert_picks(OneOfEach(GREAT, 1), DAYS, [0])
        self.assert_picks(OneOfEach(step=5, many=GREAT), DAYS, [0, 5, 10, 27, 10 ** 9])
        self.assert_picks(OneOfEach(5, 2), [], [])

    def test_refused(self):
        for step in (0, -1, -GREAT):
            for many in (None, 0, 3, -1, -7):
                self.assert_refused(NoRule(step), OneOfEach, step, many)
            self.assert_refused(NoRule(step), OneOfEach, step)
        for many in (-1, -5, -GREAT):
            self.assert_refused(NoRule(many), OneOfEach, 1, many)


class Gaps(Picking):
    def test_gaps(self):
        self.assert_picks(Apart(1), DAYS, DAYS)
        self.assert_picks(Apart(2), DAYS, [0, 2, 5, 9, 14, 27, 10 ** 9])
        self.assert_picks(Apart(5), DAYS, [0, 5, 10, 27, 10 ** 9])
        self.assert_picks(Apart(4), [3, 6, 7, 8, 11, 14, 15], [3, 7, 11, 15])
        self.assert_picks(Apart(10 ** 9), DAYS, [0, 10 ** 9])
        self.assert_picks(Apart(10 ** 9 + 1), DAYS, [0])
        self.assert_picks(Apart(GREAT), [5, 6], [5])
        self.assert_picks(Apart(3), [], [])

    def test_refused(self):
        for gap in (0, -1, -GREAT):
            self.assert_refused(NoRule(gap), Apart, gap)


class Seals(Picking):
    def test_days_in_any_order(self):
        self.assert_picks(Sealed([9, 0, 28]), DAYS, [0, 9, 28])
        self.assert_picks(Sealed([9, 9, 0, 9, 10 ** 9]), DAYS, [0, 9, 10 ** 9])
        self.assert_picks(Sealed([3, 4, 11, GREAT]), DAYS, [])
        self.assert_picks(Sealed([]), DAYS, [])
        self.assert_picks(Sealed([1, 2]), [], [])

    def test_the_askers_list_changed_afterwards(self):
        days = [9, 2]
        rule = Sealed(days)
        days.append(5)
        self.assert_picks(rule, DAYS, [2, 9])
        days.clear()
        self.assert_picks(rule, DAYS, [2, 9])

    def test_the_handed_list_stays_as_it_was(self):
        days = [9, 2, 9]
        Sealed(days).picks(DAYS)
        self.assertEqual(days, [9, 2, 9])


class Several(Picking):
    def test_any_of_none_and_of_one(self):
        self.assert_picks(AnyOf([]), DAYS, [])
        self.assert_picks(AnyOf([Rule()]), DAYS, [])
        self.assert_picks(AnyOf([LastFew(2)]), DAYS, [28, 10 ** 9])

    def test_any_of_several(self):
        self.assert_picks(AnyOf([LastFew(2), Sealed([28, 1])]), DAYS, [1, 28, 10 ** 9])
        self.assert_picks(AnyOf([Sealed([5]), Sealed([2]), Rule(), Apart(27)]), DAYS, [0, 2, 5, 27, 10 ** 9])
        self.assert_picks(AnyOf([LastFew(2), LastFew(2)]), DAYS, [28, 10 ** 9])
        self.assert_picks(AnyOf([LastFew(2), LastFew(3)]), [], [])

    def test_any_of_several_again(self):
        inner = AnyOf([Sealed([14]), AnyOf([Sealed([2]), AnyOf([])])])
        self.assert_picks(AnyOf([LastFew(1), inner, Sealed([1])]), DAYS, [1, 2, 14, 10 ** 9])
        rule = Sealed([9])
        for deep in range(20):
            rule = AnyOf([rule, Sealed([deep])])
        self.assert_picks(rule, DAYS, [0, 1, 2, 5, 9, 10, 14])

    def test_a_hundred_rules(self):
        self.assert_picks(AnyOf([Sealed([4 * day]) for day in range(100)]), list(range(400)), list(range(0, 400, 4)))

    def test_the_askers_list_changed_afterwards(self):
        rules = [Sealed([9]), Sealed([2])]
        rule = AnyOf(rules)
        rules.append(LastFew(9))
        self.assert_picks(rule, DAYS, [2, 9])
        rules.clear()
        self.assert_picks(rule, DAYS, [2, 9])

    def test_the_handed_rules_stay_as_they_were(self):
        rules = [LastFew(1), Sealed([2])]
        self.assert_picks(AnyOf(rules), DAYS, [2, 10 ** 9])
        self.assertEqual(len(rules), 2)
        self.assert_picks(rules[0], DAYS, [10 ** 9])
        self.assert_picks(rules[1], DAYS, [2])

    def test_against_each_rule_by_itself(self):
        chance = random.Random(53)
        for unused in range(100):
            rules = rules_by_chance(chance)
            days = days_by_chance(chance)
            picked = set().union(*[rule.picks(days) for rule in rules])
            self.assert_picks(AnyOf(rules), days, sorted(picked))


class Laws(unittest.TestCase):
    def test_what_is_picked_is_of_the_list(self):
        chance = random.Random(50)
        for unused in range(150):
            days = days_by_chance(chance)
            for rule in rules_by_chance(chance):
                picked = rule.picks(days)
                self.assertEqual(picked, sorted(set(picked)))
                self.assertLessEqual(set(picked), set(days))

    def test_one_more_day_at_the_end(self):
        chance = random.Random(54)
        for unused in range(150):
            days = days_by_chance(chance)
            longer = days + [(days[-1] if days else -1) + chance.randrange(1, 12)]
            for rule in rules_by_chance(chance):
                self.assertLessEqual(set(rule.picks(longer)) & set(days), set(rule.picks(days)))

    def test_days_left_out_that_are_not_picked(self):
        chance = random.Random(55)
        for unused in range(150):
            days = days_by_chance(chance)
            for rule in rules_by_chance(chance):
                picked = rule.picks(days)
                fewer = [day for day in days if day in picked or chance.randrange(2)]
                self.assertEqual(rule.picks(fewer), picked)
                self.assertEqual(rule.picks(picked), picked)


if __name__ == "__main__":
    unittest.main()
