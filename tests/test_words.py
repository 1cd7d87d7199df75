"""Point 10: numbers and changes as they are written."""

import random
import unittest

from keepsakes.errors import NoWord
from keepsakes.words import change_of, changes_of, number_of, text_of

NO_NUMBERS = [
    "", " ", "-", "+", "=", "00", "01", "007", "0" * 20, "0" * 21, "-0", "+0",
    "1" * 21, "9" * 21, "1" + "0" * 20, "0" + "1" * 20, "1" * 5000,
    "+1", "-1", "--1", "1-", "1+", " 1", "1 ", "1 2", "\t1", "1\n", "\n1", "1\t2",
    "1.0", "1e3", "0x1", "1_000", "1,000", "12a", "a12", "1a2", "none", "1=2",
    "\u0663", "1\u0663", "\u00b2", "1\u00b2", "\uff11", "\u0967\u0968", "1\u00a0", "\x00", "1\x00",
]

NO_CHANGES = [
    "", " ", "=", "==", "1", "1=", "=1", "1==2", "1=2=3", "=1=2", "1=2=", "==1", "1==",
    "01=2", "1=02", "00=1", "1=00", "+1=2", "1=+2", "-1=2", "1=-2", "a=1", "1=a", "x",
    " 1=2", "1=2 ", "1 =2", "1= 2", "1=2 3=4", "1=2\n", "\t1=2", "1=2,3=4", "1:2", "1-2",
    "1" * 21 + "=1", "1=" + "1" * 21, "\u0663=1", "1=\u0663", "1=\u00b2", "1\uff1d2",
]


class Refusing(unittest.TestCase):
    def assert_no_word(self, told, asked, text):
        with self.assertRaises(NoWord) as caught:
            asked(text)
        self.assertEqual(caught.exception.word, told)


class Numbers(Refusing):
    def test_few_figures(self):
        for number in range(1200):
            self.assertEqual(number_of(str(number)), number)

    def test_each_length(self):
        for figures in range(1, 21):
            self.assertEqual(number_of("1" + "0" * (figures - 1)), 10 ** (figures - 1))
            self.assertEqual(number_of("9" * figures), 10 ** figures - 1)
            self.assertEqual(number_of("1234567890" * 2) // 10 ** (20 - figures),
                             number_of(("1234567890" * 2)[:figures]))

    def test_it_is_a_whole_number(self):
        for word in ("0", "1", "9" * 20):
            self.assertIs(type(number_of(word)), int)

    def test_refused(self):
        for word in NO_NUMBERS:
            self.assert_no_word(word, number_of, word)

    def test_any_other_sign_at_any_place(self):
        signs = [chr(code) for code in range(32, 127)] + ["\t", "\n", "\r", "\u00b9", "\u0660"]
        for sign in signs:
            if sign not in "0123456789":
                for word in (sign + "123", "1" + sign + "23", "12" + sign + "3", "123" + sign, sign):
                    self.assert_no_word(word, number_of, word)


class Changes(Refusing):
    def test_written(self):
        self.assertEqual(change_of("3=17"), (3, 17))
        self.assertEqual(change_of("0=0"), (0, 0))
        self.assertEqual(change_of("9" * 20 + "=" + "8" * 20), (10 ** 20 - 1, 8 * (10 ** 20 - 1) // 9))

    def test_bounds_are_not_asked(self):
        self.assertEqual(change_of("40=18446744073709551616"), (40, 2 ** 64))
        self.assertEqual(change_of("99999=1"), (99999, 1))

    def test_it_is_a_tuple(self):
        self.assertIs(type(change_of("1=2")), tuple)
        self.assertIs(type(changes_of("1=2")[0]), tuple)

    def test_refused(self):
        for word in NO_CHANGES:
            self.assert_no_word(word, change_of, word)

    def test_no_number_on_either_side(self):
        for word in NO_NUMBERS:
            self.assert_no_word(word + "=5", change_of, word + "=5")
            self.assert_no_word("5=" + word, change_of, "5=" + word)


class Texts(Refusing):
    def test_no_signs_write_no_changes(self):
        self.assertEqual(changes_of(""), [])
        self.assertEqual(text_of([]), "")

    def test_in_their_order(self):
        self.assertEqual(changes_of("3=17"), [(3, 17)])
        self.assertEqual(changes_of("3=17 0=1 3=2 3=2"), [(3, 17), (0, 1), (3, 2), (3, 2)])
        self.assertEqual(text_of([(3, 17), (0, 1), (3, 2), (3, 2)]), "3=17 0=1 3=2 3=2")

    def test_blanks_too_many(self):
        for text in (" ", "  ", "1=2 ", " 1=2", "1=2  3=4", " 1=2 3=4", "1=2 3=4 ", " x", "1=2  x"):
            self.assert_no_word("", changes_of, text)

    def test_first_bad_word_from_the_left(self):
        self.assert_no_word("x", changes_of, "1=2 x y")
        self.assert_no_word("y", changes_of, "y 1=2 x")
        self.assert_no_word("x", changes_of, "1=2 x ")
        self.assert_no_word("x", changes_of, "x  1=2")
        self.assert_no_word("3", changes_of, "1=2 3 =4 01=1")
        self.assert_no_word("01=1", changes_of, "1=2 01=1 1==1")

    def test_cut_at_blanks_alone(self):
        for text in ("1=2\t3=4", "1=2\n3=4", "1=2\u00a03=4", "1=2,3=4", "\t", "\n"):
            self.assert_no_word(text, changes_of, text)

    def test_each_bad_word_at_each_place(self):
        for word in NO_CHANGES:
            if " " not in word:
                self.assert_no_word(word, changes_of, "1=2 " + word)
                self.assert_no_word(word, changes_of, "1=2 " + word + " 3=4 ?")
                if word != "":
                    self.assert_no_word(word, changes_of, word)

    def test_there_and_back(self):
        chance = random.Random(10)
        for many in range(91):
            changes = [
                (chance.randrange(10 ** chance.randrange(1, 21)), chance.randrange(10 ** chance.randrange(1, 21)))
                for unused in range(many)
            ]
            before = list(changes)
            text = text_of(changes)
            self.assertEqual(changes, before)
            self.assertEqual(text, " ".join(str(place) + "=" + str(block) for place, block in changes))
            self.assertEqual(changes_of(text), changes)
            self.assertEqual(text_of(changes_of(text)), text)

    def test_each_list_is_the_askers_own(self):
        for text in ("", "1=2 3=4"):
            before = list(changes_of(text))
            changes_of(text).append((9, 9))
            self.assertEqual(changes_of(text), before)


if __name__ == "__main__":
    unittest.main()
