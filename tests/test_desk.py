"""Points 100 to 106: a desk that is told rows of text."""

import unittest

from helping import Draw, Refusing, W

from keepsakes.days import Days
from keepsakes.desk import Desk
from keepsakes.errors import (KeepError, NoBase, NoBlock, NoDay, NoPiece, NoPlace, NoPlan, NoRow, NoRule, NoShelf,
                              NoTable)
from keepsakes.least import prices, way_of
from keepsakes.lines import line_of
from keepsakes.mending import answer
from keepsakes.pieces import Whole
from keepsakes.plans import best_plan, task_of
from keepsakes.rules import AnyOf, LastFew, OneOfEach
from keepsakes.stores import Store

RATE = 10 ** 12
LONGEST = "99999999999999999999"

# Each of these rows is of a form, and each of them has all the words that its form asks for.
ROWS = ("day", "day 0=1", "day 0=1 1=2", "keep whole", "keep since", "keep last", "seal 0", "tidy", "carry 1 1",
        "harm 0 0 0 1", "heal 0 1", "marks", "lies 0", "line 0 0", "reach 0", "fetch 0", "fetch 0 1", "price 0",
        "price 0 0 1 2", "way 0", "way 0 2", "plan 0 1 1 1 1 1", "plan 0 1 1 1 1 1 1")

NO_ROWS = (
    "", " ", "  ", "0", "none", "Day", "DAY", "days", "keep", "keep none", "keep Whole", "keep whole since", "keep 1",
    "seal", "seal 1 2", "seal x", "tidy 1", "tidy tidy", "carry", "carry 1", "carry 1 2 3", "harm 0 0 0", "harm",
    "harm 0 0 0 1 1", "heal", "heal 0", "heal 0 1 2", "marks 0", "lies", "lies 0 1", "line", "line 0", "line 0 0 0",
    "reach", "reach 0 0", "fetch", "price", "way", "plan", "plan 0", "plan 0 1 1 1 1", "table 0", "say", "deeds",
    "today",
    "fetch -1", "fetch +1", "fetch 0 x", "fetch 0 -1", "price 1.0", "way one", "way 0,1", "fetch 0_1", "fetch none",
    "day 0", "day =", "day 0=", "day =1", "day 0=1=2", "day 0==1", "day -0=1", "day 0=-1", "day 0= 1", "day 0 =1",
    "day 0=1,1=2", "day x=1", "day 0=x", "day 0=1 x", "day 0=1 1", "day none",
    f"harm 0 0 0 {W + 1}", f"harm 0 0 0 {LONGEST}", f"plan 0 {RATE + 1} 1 1 1 1", f"plan 0 1 {RATE + 1} 1 1 1",
    f"plan 0 1 1 {RATE + 1} 1 1", f"plan 0 1 1 1 {RATE + 1} 1", f"plan 0 1 1 1 1 {RATE + 1}",
    f"plan 0 1 1 1 1 1 1 {RATE + 1}", f"plan 0 1 1 1 1 1 1 1 1 1 1 {RATE + 1}")


def three_days():
    """A desk with the pieces 0 (whole, day 0), 1 (gain, 0 to 1) and 2 (gain, 1 to 2) on shelf 0, and day 3."""
    desk = Desk(2, 10, 1, "last 1, sealed 1")
    for row in ("keep whole", "day 0=5", "keep last", "day 1=6", "keep last", "day"):
        desk.say(row)
    return desk


def seen(desk):
    rows = ["marks"] + [f"{word} {shelf}" for word in ("lies", "reach") for shelf in range(3)]
    rows += [f"{word} {day}" for word in ("fetch", "price", "way") for day in range(7)]
    return [desk.say(row) for row in rows]


class Asked(Refusing):
    def assert_said(self, desk, *rows):
        for row, told in rows:
            said = desk.say(row)
            self.assertEqual((row, said), (row, told))
            self.assertIs(type(said), str)


class Made(Asked):
    def test_made(self):
        for wide in (1, 2, 40):
            desk = Desk(wide, 0, 10 ** 24, "")
            self.assert_said(desk, ("keep whole", "0"), ("fetch 0", "table " + " ".join(["0"] * wide)))
        self.assert_said(Desk(2, 0, 10 ** 24, "last 2, each 5 1, apart 3, sealed 1 2"), ("marks", "0 0 0"))

    def test_no_table(self):
        for wide in (0, -1, 41, 99):
            for rules in ("", "last 1", "last x", "each 0"):
                self.assert_refused(NoTable(wide), Desk, wide, 1, 1, rules)

    def test_no_rule(self):
        for rules, found in (("last", "last"), ("last 1,", "last 1,"), ("last 1, each 0", 0), (" ", " "), (", ", ""),
                             ("apart 0, x", 0), ("x, apart 0", "x"), ("last 01", "last 01")):
            self.assert_refused(NoRule(found), Desk, 2, 1, 1, rules)

    def test_two_desks_side_by_side(self):
        one, other = three_days(), three_days()
        before = seen(other)
        for row in ("tidy", "day 0=9", "keep whole", "carry 1 9", "harm 0 4 0 1", "seal 4"):
            one.say(row)
        self.assertEqual(seen(other), before)
        self.assert_said(other, ("day", "4"), ("tidy", "1 2 / none / 0+1=3"))


class Forms(Asked):
    def assert_no_row(self, row):
        for desk in (Desk(2, 10, 1, ""), three_days()):
            before = seen(desk)
            self.assert_refused(NoRow(row), desk.say, row)
            self.assertEqual(seen(desk), before)

    def test_rows_of_no_form(self):
        for row in NO_ROWS:
            self.assert_no_row(row)

    def test_each_form_with_blanks(self):
        for row in ROWS:
            self.assert_no_row(" " + row)
            self.assert_no_row(row + " ")
            self.assert_no_row(row + "  ")
            if " " in row:
                self.assert_no_row(row.replace(" ", "  ", 1))
                self.assert_no_row(row.replace(" ", "\t", 1))
                self.assert_no_row("  ".join(row.rsplit(" ", 1)))

    def test_each_form_with_numbers_that_are_none(self):
        for row in ROWS:
            words = row.split(" ")
            for at, word in enumerate(words):
                if word.isdigit():
                    for other in ("0" + word, "00", "1" + LONGEST, "-" + word, word + "x", "", "\u0661"):
                        self.assert_no_row(" ".join(words[:at] + [other] + words[at + 1:]))
                if "=" in word:
                    place, block = word.split("=")
                    for other in (f"0{place}={block}", f"{place}=0{block}", f"1{LONGEST}={block}",
                                  f"{place}=1{LONGEST}", "1", f"{place}={block}="):
                        self.assert_no_row(" ".join(words[:at] + [other] + words[at + 1:]))

    def test_each_form_with_another_first_word(self):
        for row in ROWS:
            self.assert_no_row("x" + row)
            self.assert_no_row(row.upper())
            self.assert_no_row(row.capitalize())

    def test_ahead_of_every_other_refusal(self):
        for row in ("day 9=1 x", f"day 0={LONGEST} 1", "keep last 1", "seal 9 9", "carry 9 01", "harm 9 9 9 x",
                    f"harm 9 9 9 {W + 1}", "heal 9 x", "lies 9 9", "line 9 9 9", "reach 9 x", "fetch 9 9 x",
                    "price 0 7 01", "way 0 7 -1", "plan 9 1 1 1 1", f"plan 99 1 1 1 {RATE + 1} 1",
                    f"plan 99 1 1 1 1 1 1 1 1 1 1 1 {RATE + 1}"):
            self.assert_no_row(row)

    def test_edges_that_are_of_a_form(self):
        desk = three_days()
        self.assert_said(desk, (f"harm 0 0 0 {W}", "ok"), (f"harm 0 0 0 {W}", "ok"), ("harm 0 0 0 0", "ok"),
                         (f"carry 1 {LONGEST}", "3"), (f"fetch {LONGEST}", "gone 0 1 2"), (f"price {LONGEST}", "gone"),
                         (f"way {LONGEST}", "gone"),
                         (f"plan 3 {RATE} {RATE} {RATE} {RATE} {RATE}", f"whole {4 * RATE + 3 * RATE ** 2}"))


class Refused(Asked):
    CASES = (
        ("day 2=1", NoPlace(2)), (f"day 0=1 {LONGEST}=1", NoPlace(int(LONGEST))),
        (f"day 0={W + 1} 2=1", NoBlock(W + 1)), (f"day 2={W + 1}", NoPlace(2)),
        (f"day 1={LONGEST}", NoBlock(int(LONGEST))), (f"plan {LONGEST} 1 1 1 1 1", NoDay(int(LONGEST))),
        (f"plan {RATE + 1} 1 1 1 1 1", NoDay(RATE + 1)),
        ("seal 3", NoDay(3)), ("seal 4", NoDay(4)), (f"seal {LONGEST}", NoDay(int(LONGEST))),
        ("carry 3 1", NoShelf(3)), (f"carry {LONGEST} 0", NoShelf(int(LONGEST))), ("heal 3 4", NoShelf(3)),
        ("heal 0 4", NoShelf(4)), ("heal 5 0", NoShelf(5)), ("reach 3", NoShelf(3)), ("lies 3", NoShelf(3)),
        ("fetch 0 3", NoShelf(3)), ("fetch 9 0 1 2 7 3", NoShelf(7)), ("price 0 3", NoShelf(3)),
        ("way 0 1 9", NoShelf(9)),
        ("harm 3 9 9 1", NoShelf(3)), ("harm 0 9 9 1", NoPiece(9)), ("harm 1 0 0 1", NoPiece(0)),
        ("harm 0 0 2 1", NoPlace(2)), ("harm 0 1 1 0", NoPlace(1)), (f"harm 0 0 {LONGEST} 1", NoPlace(int(LONGEST))),
        ("line 3 9", NoShelf(3)), ("line 0 3", NoPiece(3)), ("line 1 0", NoPiece(0)),
        ("plan 0 1 1 1 1 1 1 1 1 1 1 1 1", NoPlan(8)), ("plan 99 1 1 1 1 1 1 1 1 1 1 1 1", NoPlan(8)),
        ("plan 0 1 1 1 1 1 1 1 1 1 1 1 1 1 1", NoPlan(10)), ("plan 4 1 1 1 1 1", NoDay(4)),
        ("plan 2 1 1 1 1 1 1 1", NoDay(4)), ("plan 99 1 1 1 1 1 1", NoDay(99)), ("plan 0 1 1 1 1 0 0 0 0 0", NoDay(4)))

    def test_each_refusal(self):
        for row, error in self.CASES:
            desk = three_days()
            before = seen(desk)
            self.assert_refused(error, desk.say, row)
            self.assertEqual(seen(desk), before)
            self.assert_said(desk, ("day", "4"), ("keep last", "3"))

    def test_no_base(self):
        desk = Desk(2, 1, 1, "")
        for day in range(2):
            self.assert_refused(NoBase(None, day), desk.say, "keep since")
            self.assert_refused(NoBase(None, day), desk.say, "keep last")
            desk.say("day")
        self.assert_said(desk, ("keep whole", "0"))
        self.assert_refused(NoBase(2, 2), desk.say, "keep since")
        self.assert_refused(NoBase(2, 2), desk.say, "keep last")
        self.assert_said(desk, ("marks", "1 0 0"))


class Answers(Asked):
    def test_what_is_done(self):
        desk = Desk(3, 10, 1, "last 1, sealed 1")
        self.assert_said(
            desk, ("keep whole", "0"), ("day", "1"), ("day 0=5 2=7 0=6", "2"), ("keep since", "1"), ("day 1=1", "3"),
            ("keep last", "2"), ("marks", "3 0 0"), ("carry 1 2", "2"), ("carry 1 0", "0"), ("carry 2 9", "3"),
            ("carry 1 9", "1"), ("carry 0 5", "0"), ("marks", "3 3 3"), ("harm 0 1 0 1", "ok"), ("harm 0 2 0 1", "ok"),
            ("heal 0 1", "1 2"), ("heal 0 1", "none"), ("heal 0 0", "none"), ("seal 2", "ok"), ("seal 2", "ok"),
            ("tidy", "2 3 / none / 0+1=3"), ("marks", "6 3 3"), ("lies 0", "2 3"), ("tidy", "2 3 / none / none"))

    def test_tidied(self):
        self.assert_said(Desk(1, 1, 1, "last 1"), ("tidy", "none / none / none"))
        desk = Desk(1, 1, 1, "")
        self.assert_said(desk, ("keep whole", "0"), ("keep whole", "1"), ("tidy", "none / 0 1 / none"),
                         ("lies 0", "none"))
        desk = Desk(1, 1, 1, "last 1")
        self.assert_said(desk, ("keep whole", "0"), ("day 0=1", "1"), ("keep last", "1"), ("day 0=2", "2"),
                         ("keep last", "2"), ("keep since", "3"), ("tidy", "2 / 1 2 / 0+3=4"), ("lies 0", "4"))
        desk = Desk(1, 1, 1, "last 1")
        self.assert_said(desk, ("keep whole", "0"), ("day 0=1", "1"), ("keep last", "1"), ("day 0=2", "2"),
                         ("keep last", "2"), ("tidy", "2 / none / 0+1=3 3+2=4"),
                         ("line 0 4", line_of(Whole(2, [(0, 2)]))))

    def test_what_is_asked_of_the_store(self):
        desk = three_days()
        self.assert_said(
            desk, ("marks", "3 0 0"), ("lies 0", "0 1 2"), ("lies 1", "none"), ("lies 2", "none"), ("reach 0", "2"),
            ("reach 1", "none"), ("carry 1 1", "1"), ("reach 1", "0"), ("lies 1", "0"),
            ("line 0 0", "whole 0 0=0 1=0 00000000000000000128"), ("harm 0 2 0 1", "ok"), ("reach 0", "1"))
        self.assertTrue(desk.say("line 0 1").startswith("gain 0 1 0=5 "))
        self.assertTrue(desk.say("line 0 2").startswith("gain 1 2 1=7 "))
        self.assertEqual(len(desk.say("line 0 2")), len("gain 1 2 1=7 ") + 20)

    def test_well_days(self):
        desk = three_days()
        self.assert_said(
            desk, ("fetch 0", "table 0 0"), ("fetch 1", "table 5 0"), ("fetch 2", "table 5 6"),
            ("fetch 2 0", "table 5 6"), ("fetch 2 1 0 0 2", "table 5 6"), ("price 0", "0 12 1"),
            ("price 2", "0 34 3"), ("price 2 0 0", "0 34 3"), ("way 0", "0"), ("way 2", "0 1 2"),
            ("way 2 2 1 0", "0 1 2"))

    def test_gone_days(self):
        desk = three_days()
        self.assert_said(
            desk, ("fetch 3", "gone 0 1 2"), ("fetch 4", "gone 0 1 2"), ("price 3", "gone"), ("way 3", "gone"),
            ("fetch 0 1", "gone none"), ("price 0 1", "gone"), ("way 0 1 2", "gone"), ("carry 1 1", "1"),
            ("fetch 0 1", "table 0 0"), ("fetch 1 1", "gone 0"), ("fetch 1 2 1", "gone 0"))
        self.assert_said(Desk(1, 1, 1, ""), ("fetch 0", "gone none"), ("price 0", "gone"), ("way 0", "gone"))

    def test_lost_days(self):
        desk = three_days()
        for row in ("day", "keep whole", "carry 1 9", "harm 0 0 1 1", "harm 0 2 0 1", "harm 0 3 0 4"):
            desk.say(row)
        self.assert_said(
            desk, ("fetch 2 0", "lost 0+3 2"), ("price 2 0", "2 34 3"), ("way 2 0", "0 1 2"), ("fetch 0 0", "lost 0+3"),
            ("fetch 4 0", "lost 0+3"), ("fetch 1 0", "lost 0+3"), ("fetch 2", "table 5 6"), ("price 2", "0 34 3"),
            ("fetch 3 0", "gone 0 1 2 4"), ("keep whole", "4"), ("fetch 4 0", "table 5 6"), ("fetch 0 0", "lost 0"),
            ("harm 0 4 1 1", "ok"), ("fetch 4 0", "lost 0+3+4"), ("way 4 0", "3"), ("price 4 0", "1 12 1"),
            ("fetch 4", "table 5 6"), ("fetch 4 0 2", "lost 0+3+4"))

    def test_plans(self):
        desk = three_days()
        self.assert_said(
            desk, ("plan 0 1 1 1 1 0", "none 0"), ("plan 3 1 1 1 1 0", "none 0"), ("plan 3 1 2 3 4 5", "whole 61"),
            ("plan 1 0 0 0 0 1 1", "whole whole 0"), ("plan 0 1 0 0 0 1 0 1", "whole none whole 4"), 
            ("plan 1 1 0 0 0 1 0 1", "whole none since 3"), ("plan 1 1 0 0 0 1 1 1", "whole since last 3"))

    def test_a_plan_looks_at_the_row_of_days_alone(self):
        desk = three_days()
        rows = ["plan 0 1 1 5 1 1 0 2 1", "plan 1 0 3 1 2 4 4", "plan 0 3 0 1 0 0 0 0 1"]
        before = [desk.say(row) for row in rows]
        for row in ("tidy", "harm 0 2 0 1", "carry 1 2", "seal 1"):
            desk.say(row)
            self.assertEqual([desk.say(plan) for plan in rows], before)

    def test_numbers_above_20_figures(self):
        desk = Desk(1, 10 ** 24, 10 ** 24, "")
        self.assert_said(desk, ("keep whole", "0"), ("price 0", f"0 {2 * 10 ** 24} 1"),
                         (f"plan 0 {RATE} {RATE} {RATE} {RATE} {RATE}", f"whole {2 * RATE + RATE * 2 * RATE}"))
        desk = Desk(40, 1, 1, "")
        self.assert_said(desk, (f"plan 0 {RATE} {RATE} {RATE} {RATE} {RATE}",
                                f"whole {80 * RATE + RATE * 41 * RATE}"))

    def test_great_blocks(self):
        desk = Desk(2, 1, 1, "")
        self.assert_said(desk, (f"day 0={W} 1=1 1=0", "1"), ("keep whole", "0"), ("fetch 1", f"table {W} 0"))

    def test_seven_weights(self):
        desk = Desk(1, 1, 1, "")
        for unused in range(6):
            desk.say("day 0=1")
        self.assert_said(desk, ("plan 0 1 1 1 1 0 0 0 0 0 0 0", "none none none none none none none 0"))


class AgainstAStore(unittest.TestCase):
    """A desk and a store that are told the same, in drawn orders, with rows that are refused in between."""

    def test_drawn_rows(self):
        draw = Draw(106)
        for unused in range(6):
            desk, days = Desk(3, 7, 2, "last 2, each 5 2"), Days(3)
            store = Store(3, AnyOf([LastFew(2), OneOfEach(5, 2)]), 7, 2)
            refusals = 0
            for unused_too in range(300):
                row, told = self.drawn(draw, store, days)
                try:
                    want = told()
                except KeepError as error:
                    refusals += 1
                    with self.assertRaises(type(error)) as caught:
                        desk.say(row)
                    self.assertEqual(vars(caught.exception), vars(error))
                    continue
                self.assertEqual((row, desk.say(row)), (row, want))
            self.assertGreater(refusals, 20)

    def drawn(self, draw, store, days):
        day, shelf, other, number = (draw.randrange(most) for most in (store.today() + 2, 4, 4, store.deeds() + 1))
        some = [draw.randrange(3 if draw.randrange(4) else 4) for unused in range(draw.randrange(4))]
        changes = [(draw.randrange(3), draw.randrange(9)) for unused in range(draw.randrange(3))]
        words = " ".join(map(str, [day] + some))
        asked = some or None
        rates = [draw.randrange(9) for unused in range(4)]
        weights = [draw.randrange(3) for unused in range(1 + len(some))]

        def none_or(things):
            return " ".join(map(str, things)) or "none"

        def passed():
            days.passes(changes)
            return str(store.passes(changes))

        def tidied():
            wanted, thrown, folds = store.tidy()
            return f"{none_or(wanted)} / {none_or(thrown)} / {none_or('%d+%d=%d' % fold for fold in folds)}"

        def fetched():
            told = answer(store.legs(asked), day)
            if told[0] == "well":
                return "table " + none_or(store.fetch(day, asked))
            if told[0] == "gone":
                return "gone " + none_or(told[1])
            return "lost " + " ".join("+".join(map(str, cut)) for cut in told[2])

        def planned():
            plan, cost, leaves = best_plan(task_of(days, day, weights, rates))
            return " ".join(plan) + f" {cost}"

        kept = draw.choice(("whole", "since", "last"))
        return draw.choice([
            (" ".join(["day"] + [f"{place}={block}" for place, block in changes]), passed),
            (" ".join(["day"] + [f"{place}={block}" for place, block in changes]), passed),
            (f"keep {kept}", lambda: str(store.keep(kept))),
            (f"keep {kept}", lambda: str(store.keep(kept))),
            (f"keep {kept}", lambda: str(store.keep(kept))),
            (f"seal {day}", lambda: store.seal(day) or "ok") if draw.randrange(4) == 0 else ("tidy", tidied),
            (f"carry {shelf} {number}", lambda: str(store.carry(shelf, number))),
            (f"harm {shelf} {number} 0 5", lambda: store.harm(shelf, number, 0, 5) or "ok"),
            (f"heal {shelf} {other}", lambda: none_or(store.heal(shelf, other))),
            ("marks", lambda: "%d %d %d" % store.marks()),
            (f"lies {shelf}", lambda: none_or(store.numbers(shelf))),
            (f"line {shelf} {number}", lambda: line_of(store.piece(shelf, number))),
            (f"reach {shelf}", lambda: str(store.reach(shelf)).replace("None", "none")),
            (f"fetch {words}", fetched),
            (f"price {words}", lambda: none_or(prices(store.legs(asked)).get(day, ["gone"]))),
            (f"way {words}", lambda: none_or(way_of(store.legs(asked), day) or ["gone"])),
            (f"plan {day} {none_or(rates)} {none_or(weights)}", planned)])


if __name__ == "__main__":
    unittest.main()
