"""Point 4 and the row "errors" of the interface."""

import inspect
import unittest

from keepsakes import errors

FIELDS = {
    "NoWord": ("word",),
    "NoTable": ("wide",),
    "NoPlace": ("place",),
    "NoBlock": ("block",),
    "NoDay": ("day",),
    "NoBase": ("base", "day"),
    "NoLine": ("line",),
    "NoPiece": ("number",),
    "NoWay": ("at",),
    "BadPiece": ("day",),
    "NoItem": (),
    "NoRule": ("found",),
    "NoMerge": ("day", "base"),
    "Lost": ("day", "cuts"),
    "NoPlan": ("many",),
    "NoShelf": ("shelf",),
    "NoRow": ("line",),
}

VALUES = (
    0, 7, -1, 2 ** 64, -(10 ** 30), 10 ** 5000,
    "", "a word", "\u0663 \n", None,
    [], [[1, 2], [3]], (), (1, "x"), {"k": [1]},
)


def made(name, values):
    return getattr(errors, name)(*values)


class Classes(unittest.TestCase):
    def test_there_are_seventeen(self):
        self.assertEqual(len(FIELDS), 17)
        for name in FIELDS:
            self.assertTrue(inspect.isclass(getattr(errors, name)), name)

    def test_keep_error_is_a_value_error(self):
        self.assertTrue(issubclass(errors.KeepError, ValueError))
        for name in FIELDS:
            self.assertFalse(issubclass(errors.KeepError, getattr(errors, name)), name)

    def test_each_is_a_keep_error(self):
        for name, fields in FIELDS.items():
            error = made(name, [0] * len(fields))
            self.assertIsInstance(error, errors.KeepError)
            self.assertIsInstance(error, ValueError)
            with self.assertRaises(errors.KeepError):
                raise error

    def test_none_is_beneath_another(self):
        for one in FIELDS:
            for other in FIELDS:
                if one != other:
                    beneath = issubclass(getattr(errors, one), getattr(errors, other))
                    self.assertFalse(beneath, (one, other))


class Fields(unittest.TestCase):
    def test_one_value_of_each_kind(self):
        for name, fields in FIELDS.items():
            if len(fields) == 1:
                for value in VALUES:
                    self.assertIs(getattr(made(name, [value]), fields[0]), value)

    def test_two_values_in_their_order(self):
        for name, fields in FIELDS.items():
            if len(fields) == 2:
                for first in VALUES:
                    for second in VALUES:
                        error = made(name, [first, second])
                        self.assertIs(getattr(error, fields[0]), first)
                        self.assertIs(getattr(error, fields[1]), second)

    def test_two_of_one_class_have_each_its_own(self):
        one = errors.Lost(1, [[2]])
        other = errors.Lost(3, [[4]])
        self.assertEqual((one.day, one.cuts), (1, [[2]]))
        self.assertEqual((other.day, other.cuts), (3, [[4]]))

    def test_no_item_has_no_field(self):
        self.assertEqual(vars(errors.NoItem()), {})

    def test_no_other_fields(self):
        for name, fields in FIELDS.items():
            self.assertEqual(sorted(vars(made(name, [0] * len(fields)))), sorted(fields))


if __name__ == "__main__":
    unittest.main()
