"""Points 28 and 29: pieces as lines of text."""

import random
import unittest

from helping import Refusing, W, told_of

from keepsakes.errors import NoLine
from keepsakes.lines import line_of, piece_of
from keepsakes.pieces import Gain, Whole

CHECK = "00000000000000000007"
DAY_MOST = 10 ** 9

HEADS = [
    "", " ", "whole", "gain", "whole ", "gain ", "whole 1", "gain 1 2", "whole " + CHECK, "gain " + CHECK, CHECK,
    "Whole 1 0=1 " + CHECK, "WHOLE 1 0=1 " + CHECK, "gains 1 2 0=1 " + CHECK, "1 0=1 " + CHECK, "piece 1 0=1 " + CHECK,
    "whole gain 1 2 0=1 " + CHECK, "since 1 2 0=1 " + CHECK, "\u0077hol\u00e9 1 0=1 " + CHECK,
]

WORDS = [
    "whole 0=1 " + CHECK, "whole 1 0=1", "whole 1 2 0=1 " + CHECK, "whole 1 0=1 5 " + CHECK,
    "whole 1 0=1 " + CHECK + " 1",
    "whole 1 0=1 " + CHECK + " " + CHECK, "whole 1 0=1 x " + CHECK, "whole x 0=1 " + CHECK, "whole 1=1 0=1 " + CHECK,
    "gain 1 0=1 " + CHECK, "gain 1 2 0=1", "gain 1 2 3 0=1 " + CHECK, "gain 1 " + CHECK, "gain 1 2 3 " + CHECK,
    "gain 1 2 0=1 " + CHECK + " 0", "gain 1 2 0 " + CHECK, "gain 1 2 0=1=2 " + CHECK, "gain 0=1 1 2 " + CHECK,
    "whole 12345678901234567890", "gain 12345678901234567890", "gain 1 12345678901234567890",
    "whole 1 12345678901234567890", "12345678901234567890", "gain -1 2 0=1 " + CHECK,
    "gain 1 -2 0=1 " + CHECK, "whole -1 0=1 " + CHECK, "whole 1 0=-1 " + CHECK,
    "whole +1 0=1 " + CHECK, "whole 1 0:1 " + CHECK, "whole 1 =1 " + CHECK, "whole 1 0= " + CHECK, "whole 1 = " + CHECK,
    CHECK + " 1 0=1 whole", "whole 1 " + CHECK + " 0=1", "whole\t1\t0=1\t" + CHECK, "whole 1 0=1 " + CHECK + "\n",
]

BLANKS = [
    " whole 1 0=1 " + CHECK, "whole 1 0=1 " + CHECK + " ", "whole  1 0=1 " + CHECK, "whole 1  0=1 " + CHECK,
    "whole 1 0=1  " + CHECK, " gain 1 2 " + CHECK, "gain 1 2 " + CHECK + " ", "gain 1 2  " + CHECK,
    "gain  1 2 " + CHECK, "gain 1  2 " + CHECK, "whole 1 0 =1 " + CHECK, "whole 1 0= 1 " + CHECK,
]

NOUGHTS = [
    "whole 01 0=1 " + CHECK, "whole 00 0=1 " + CHECK, "whole 1 00=1 " + CHECK, "whole 1 0=01 " + CHECK,
    "whole 1 0=00 " + CHECK, "gain 01 2 " + CHECK, "gain 1 02 " + CHECK, "gain 1 2 03=1 " + CHECK,
    "gain 1 2 3=01 " + CHECK, "gain 00 2 " + CHECK,
]

CHECKS = [
    "0", "7", "", CHECK[1:], "0" + CHECK, "1" * 19, "1" * 21, str(W + 1), "9" * 20, "-" + CHECK[1:], "+" + CHECK[1:],
    CHECK[:-1] + "x", "x" + CHECK[1:], CHECK[:-1] + "=", CHECK[:-1] + "\u0667", CHECK[:-1] + "\u00b2", "0x" + CHECK[2:],
    CHECK[:9] + "_" + CHECK[10:], CHECK[:-1] + "\n",
]

BOUNDS = [
    "whole 1000000001 0=1 " + CHECK, "whole 99999999999999999999 0=1 " + CHECK,
    "whole 111111111111111111111 0=1 " + CHECK,
    "gain 1 1000000001 0=1 " + CHECK, "gain 1000000000 1000000001 0=1 " + CHECK, "gain 1000000001 1000000002 " + CHECK,
    "gain 1000000001 5 " + CHECK, "gain 1 2 40=1 " + CHECK, "gain 1 2 0=1 41=1 " + CHECK,
    "gain 1 2 99999999999999999999=1 " + CHECK, "gain 1 2 0=18446744073709551616 " + CHECK,
    "whole 1 0=18446744073709551616 " + CHECK, "whole 1 0=1 1=99999999999999999999 " + CHECK,
    "whole 1 " + " ".join(str(place) + "=0" for place in range(41)) + " " + CHECK,
    "gain 1 2 " + " ".join(str(place) + "=0" for place in range(41)) + " " + CHECK,
]

FORMS = [
    "whole 1 " + CHECK, "whole 0 " + CHECK, "whole 1 1=1 " + CHECK, "whole 1 0=1 2=1 " + CHECK,
    "whole 1 0=1 0=1 " + CHECK, "whole 1 1=1 0=1 " + CHECK, "whole 1 0=1 1=1 1=1 " + CHECK,
    "whole 1 0=1 2=1 1=1 " + CHECK, "whole 1 0=1 1=1 3=1 " + CHECK,
    "gain 1 2 1=1 1=1 " + CHECK, "gain 1 2 1=1 0=1 " + CHECK, "gain 1 2 0=1 5=1 5=2 " + CHECK,
    "gain 1 2 0=1 5=1 4=2 " + CHECK, "gain 1 2 39=1 0=1 " + CHECK,
    "gain 1 1 0=1 " + CHECK, "gain 2 1 0=1 " + CHECK, "gain 0 0 " + CHECK, "gain 1000000000 0 " + CHECK,
    "gain 1000000000 1000000000 " + CHECK,
]


class Lines(Refusing):
    def assert_told(self, piece, line):
        self.assertEqual(line_of(piece), line)
        back = piece_of(line)
        self.assertIs(type(back), type(piece))
        self.assertEqual(told_of(back), told_of(piece))
        self.assertIs(back.is_good(), piece.is_good())

    def assert_no_line(self, line):
        self.assert_refused(NoLine(line), piece_of, line)

    def test_written_out(self):
        self.assert_told(Whole(1, [(0, 3)]), "whole 1 0=3 00000000000000016387")
        self.assert_told(Whole(0, [(0, 0)]), "whole 0 0=0 00000000000000000000")
        self.assert_told(Whole(0, [(0, W)]), "whole 0 0=18446744073709551615 18446744073709551615")
        self.assert_told(Gain(3, 6, []), "gain 3 6 00000000000000000518")
        self.assert_told(Gain(0, 5, [(2, 4), (39, 0)], 12), "gain 0 5 2=4 39=0 00000000000000000012")

    def test_one_row_and_forty(self):
        rows = [(place, W - place) for place in range(40)]
        for check in (None, 0, W, 5):
            for piece in (Whole(7, rows, check), Whole(7, rows[:1], check), Gain(6, 7, rows, check),
                          Gain(6, 7, rows[39:], check), Gain(6, 7, [], check)):
                head = "whole 7 " if piece.kind() == "whole" else "gain 6 7 "
                words = "".join(str(place) + "=" + str(block) + " " for place, block in piece.rows)
                self.assert_told(piece, head + words + "0" * (20 - len(str(piece.check))) + str(piece.check))

    def test_days_at_the_bounds(self):
        self.assert_told(Whole(0, [(0, 1)], 7), "whole 0 0=1 " + CHECK)
        self.assert_told(Whole(DAY_MOST, [(0, 1)], 7), "whole 1000000000 0=1 " + CHECK)
        self.assert_told(Gain(0, DAY_MOST, [(0, 1)], 7), "gain 0 1000000000 0=1 " + CHECK)
        self.assert_told(Gain(DAY_MOST - 1, DAY_MOST, [], 7), "gain 999999999 1000000000 " + CHECK)

    def test_a_check_that_does_not_fit(self):
        for line in ("whole 1 0=3 00000000000000016386", "whole 1 0=3 " + "0" * 20, "gain 3 6 " + str(W)):
            piece = piece_of(line)
            self.assertIs(piece.is_good(), False)
            self.assertEqual(line_of(piece), line)
        self.assertEqual(piece_of("whole 1 0=3 00000000000000016386").check, 16386)
        self.assertEqual(piece_of("gain 3 6 " + str(W)).check, W)
        self.assertIs(piece_of("whole 1 0=3 00000000000000016387").is_good(), True)

    def test_harmed_pieces(self):
        piece = Whole(4, [(0, 17), (1, 5)]).harmed(1, 4)
        self.assert_told(piece, line_of(Whole(4, [(0, 17), (1, 5)])).replace("1=5", "1=1"))

    def test_kinds(self):
        piece = piece_of("gain 3 6 1=2 " + CHECK)
        self.assertIsInstance(piece, Gain)
        self.assertEqual((piece.base, piece.day, piece.rows, piece.check), (3, 6, ((1, 2),), 7))
        self.assertIsInstance(piece_of("whole 3 0=2 " + CHECK), Whole)

    def test_refused(self):
        for line in HEADS + WORDS + BLANKS + NOUGHTS + BOUNDS + FORMS:
            self.assert_no_line(line)

    def test_no_check(self):
        for check in CHECKS:
            self.assert_no_line("whole 1 0=1 " + check)
            self.assert_no_line("gain 1 2 0=1 " + check)
            self.assert_no_line("gain 1 2 " + check)
        self.assertEqual(piece_of("whole 1 0=1 " + str(W)).check, W)

    def test_other_signs_at_any_place(self):
        lines = [line_of(Whole(12, [(0, 5), (1, 0)])), line_of(Gain(3, 10, [(7, 12)])), line_of(Gain(3, 10, []))]
        signs = [chr(code) for code in range(33, 127)] + ["\t", "\n", "\u0663", "\u00a0"]
        for line in lines:
            for at in range(len(line) + 1):
                for sign in signs:
                    for changed in (line[:at] + sign + line[at:], line[:at] + sign + line[at + 1:]):
                        if sign not in "0123456789=":
                            if changed != line:
                                self.assert_no_line(changed)
                        else:
                            self.assert_read_or_refused(changed)

    def assert_read_or_refused(self, line):
        # What is read must be told by this very line, else it was no line.
        try:
            piece = piece_of(line)
        except NoLine as error:
            self.assertEqual(error.line, line)
        else:
            self.assertEqual(line_of(piece), line)

    def test_words_left_out_and_blanks_added(self):
        for piece in (Whole(12, [(0, 5), (1, 0), (2, 1)]), Gain(3, 10, [(7, 12), (8, 1)])):
            line = line_of(piece)
            words = line.split(" ")
            for at in range(len(words) + 1):
                self.assert_no_line(" ".join(words[:at] + [""] + words[at:]))
                if at < len(words):
                    self.assert_read_or_refused(" ".join(words[:at] + words[at + 1:]))
            for at in (0, 1, len(words) - 1):
                self.assert_no_line(" ".join(words[:at] + words[at + 1:]))

    def test_there_and_back(self):
        chance = random.Random(28)
        for unused in range(200):
            day = chance.choice((1, chance.randrange(1, 300), DAY_MOST))
            rows = [(place, chance.choice((0, W, chance.randrange(W + 1)))) for place in range(40)]
            check = chance.choice((None, 0, W, chance.randrange(W + 1), chance.randrange(10 ** 9)))
            some = [row for row in rows if chance.randrange(3) == 0]
            for piece in (Whole(day, rows[:chance.randrange(1, 41)], check),
                          Gain(chance.randrange(day), day, some, check)):
                self.assert_told(piece, line_of(piece))


if __name__ == "__main__":
    unittest.main()
