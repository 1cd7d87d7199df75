"""Point 55: rules as they are written."""

import unittest

from helping import Draw, Refusing

from keepsakes.errors import KeepError, NoRule
from keepsakes.rules import AnyOf, Apart, LastFew, OneOfEach, Rule, Sealed
from keepsakes.ruletexts import rule_of

DAYS = [0, 1, 2, 5, 9, 10, 14, 27, 28, 10 ** 9]
LONGEST = "99999999999999999999"
NO_PARTS = (
    " ", "last", "each", "apart", "sealed", "last ", "each ", "apart ", "sealed ", "last 1 2", "each 1 2 3",
    "apart 1 2", " last 1", "last 1 ", "last  1", "each 2  3", "each 2 3 ", "apart  4", "sealed 1  2",
    "sealed 1 ", "sealed  1",
    "Last 1", "LAST 1", "lasts 1", "las 1", "first 1", "1", "1 last", "none", "seal 1", "last=1", "rule", "any 1",
    "last 01", "last 00", "each 07", "each 7 07", "apart 03", "sealed 00", "sealed 1 02", "last -1", "last +1",
    "last 1_0", "each -1", "each 0 x", "apart x", "apart 1.", "sealed x", "sealed 1 x 2", "last one", "each 3 -1",
    "last 1" + LONGEST, "each 1" + LONGEST, "each 1 1" + LONGEST, "apart 1" + LONGEST, "sealed 1" + LONGEST,
    "sealed 3 1" + LONGEST, "last 1,", ",last 1", "last 1,each 2", "last 1,,each 2", "last 1 ,each 2", "last 1;", ",",
    ",,", "sealed 1,2", "sealed 1,2 3")


class Read(unittest.TestCase):
    def assert_reads(self, text, rule):
        read = rule_of(text)
        self.assertIs(type(read), AnyOf)
        for days in ([], [0], DAYS, DAYS[3:], list(range(50)), [10 ** 9]):
            handed = list(days)
            self.assertEqual(read.picks(handed), rule.picks(days), text)
            self.assertEqual(handed, days)

    def test_the_text_without_signs(self):
        self.assert_reads("", Rule())
        self.assertEqual(rule_of("").picks(DAYS), [])

    def test_each_kind_of_part(self):
        self.assert_reads("last 3", LastFew(3))
        self.assert_reads("last 0", LastFew(0))
        self.assert_reads("each 5", OneOfEach(5))
        self.assert_reads("each 1", OneOfEach(1))
        self.assert_reads("each 5 2", OneOfEach(5, 2))
        self.assert_reads("each 5 0", OneOfEach(5, 0))
        self.assert_reads("apart 4", Apart(4))
        self.assert_reads("apart 1", Apart(1))
        self.assert_reads("sealed 9", Sealed([9]))
        self.assert_reads("sealed 28 0 9", Sealed([0, 9, 28]))
        self.assert_reads("sealed 9 9 0 9", Sealed([0, 9]))

    def test_written_out(self):
        self.assertEqual(rule_of("last 2").picks(DAYS), [28, 10 ** 9])
        self.assertEqual(rule_of("each 5").picks(DAYS), [0, 5, 10, 27, 10 ** 9])
        self.assertEqual(rule_of("each 5 2").picks(DAYS), [27, 10 ** 9])
        self.assertEqual(rule_of("apart 9").picks(DAYS), [0, 9, 27, 10 ** 9])
        self.assertEqual(rule_of("sealed 14 2 3").picks(DAYS), [2, 14])
        self.assertEqual(rule_of("sealed 14 2, last 1, each 20 2").picks(DAYS), [2, 14, 27, 10 ** 9])

    def test_numbers_of_20_figures(self):
        self.assert_reads("last " + LONGEST, LastFew(int(LONGEST)))
        self.assert_reads("each " + LONGEST, OneOfEach(int(LONGEST)))
        self.assert_reads(f"each {LONGEST} {LONGEST}", OneOfEach(int(LONGEST), int(LONGEST)))
        self.assert_reads(f"each 5 {LONGEST}", OneOfEach(5))
        self.assert_reads("apart " + LONGEST, Apart(int(LONGEST)))
        self.assert_reads(f"sealed {LONGEST} 2", Sealed([2]))
        self.assert_reads("last 10000000000000000000", LastFew(10 ** 19))

    def test_several_parts(self):
        self.assert_reads("last 2, each 10", AnyOf([LastFew(2), OneOfEach(10)]))
        self.assert_reads("last 2, last 2, last 2", LastFew(2))
        self.assert_reads("sealed 1, sealed 2, sealed 27", Sealed([1, 2, 27]))
        self.assert_reads("each 7 2, apart 6, sealed 1 2, last 1, each 9",
                          AnyOf([OneOfEach(7, 2), Apart(6), Sealed([1, 2]), LastFew(1), OneOfEach(9)]))

    def test_ninety_parts(self):
        self.assert_reads(", ".join(f"sealed {day}" for day in range(0, 180, 2)), Sealed(list(range(0, 180, 2))))

    def test_parts_drawn(self):
        draw = Draw(55)
        for unused in range(100):
            parts, rules = [], []
            for unused_too in range(draw.randrange(1, 5)):
                number, many = draw.randrange(1, 12), draw.randrange(4)
                some = [draw.randrange(40) for day in range(number)]
                part, rule = draw.choice([
                    (f"last {many}", LastFew(many)), (f"each {number}", OneOfEach(number)),
                    (f"each {number} {many}", OneOfEach(number, many)), (f"apart {number}", Apart(number)),
                    ("sealed " + " ".join(map(str, some)), Sealed(some))])
                parts.append(part)
                rules.append(rule)
            self.assert_reads(", ".join(parts), AnyOf(rules))


class Refused(Refusing):
    def test_parts_of_no_form(self):
        for part in NO_PARTS:
            self.assert_refused(NoRule(part), rule_of, part)
            self.assert_refused(NoRule(part), rule_of, "last 1, " + part)
            self.assert_refused(NoRule(part), rule_of, part + ", last 1")
            self.assert_refused(NoRule(part), rule_of, f"each 3 2, {part}, last 1")

    def test_parts_without_signs(self):
        for text in (", ", "last 1, ", ", last 1", "last 1, , last 1", ", , ", "last 2, each 3, , "):
            self.assert_refused(NoRule(""), rule_of, text)

    def test_blanks_and_commas_round_a_cut(self):
        self.assert_refused(NoRule(" each 2"), rule_of, "last 1,  each 2")
        self.assert_refused(NoRule("last 1 "), rule_of, "last 1 , each 2")
        self.assert_refused(NoRule("last 1,"), rule_of, "last 1,, each 2")
        self.assert_refused(NoRule("last 1,"), rule_of, "last 1,, ")
        self.assert_refused(NoRule("last 1,each 2"), rule_of, "last 1,each 2, last x")
        self.assert_refused(NoRule(" "), rule_of, "last 1,  ")

    def test_rules_that_are_refused(self):
        for part in ("each 0", "each 0 0", "each 0 5", "apart 0", "each 0 " + LONGEST):
            self.assert_refused(NoRule(0), rule_of, part)
            self.assert_refused(NoRule(0), rule_of, "last 0, " + part)
            self.assert_refused(NoRule(0), rule_of, part + ", each 3")

    def test_the_number_at_fault_is_a_number(self):
        with self.assertRaises(KeepError) as caught:
            rule_of("apart 0")
        self.assertIs(type(caught.exception.found), int)

    def test_the_first_part_at_fault_from_the_left(self):
        self.assert_refused(NoRule(0), rule_of, "last 1, each 0, last x")
        self.assert_refused(NoRule("last x"), rule_of, "last 1, last x, each 0")
        self.assert_refused(NoRule(0), rule_of, "apart 0, ")
        self.assert_refused(NoRule(""), rule_of, ", apart 0")
        self.assert_refused(NoRule("last y"), rule_of, "last y, last x")
        self.assert_refused(NoRule("each 0 0 0"), rule_of, "each 0 0 0, apart 0")

    def test_signs_of_other_kinds(self):
        for part in ("last \u0661", "last \u00b2", "last\t1", "last 1\n", "\u00e9ach 2"):
            self.assert_refused(NoRule(part), rule_of, part)


if __name__ == "__main__":
    unittest.main()
