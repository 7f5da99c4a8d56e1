"""The refusals of the interface: their names, their bases, the field `row`."""

import inspect
import unittest

from doubthall import errors

BASES = {
    "HallError": ValueError,
    "RowError": errors.HallError,
    "NoRow": errors.RowError,
    "TooMany": errors.RowError,
    "Twice": errors.RowError,
    "Headed": errors.RowError,
    "NotTurn": errors.HallError,
    "NoDoubt": errors.HallError,
    "NoReply": errors.HallError,
    "NoAsk": errors.HallError,
    "NoWord": errors.HallError,
    "NotGuess": errors.HallError,
    "NotTold": errors.HallError,
}
WITH_ROW = ("RowError", "NoRow", "TooMany", "Twice", "Headed")


class Errors(unittest.TestCase):
    def test_each_class_has_the_told_base_and_no_other(self):
        for name, base in BASES.items():
            with self.subTest(name):
                self.assertEqual(getattr(errors, name).__bases__, (base,))

    def test_there_are_no_other_refusals(self):
        found = [name for name, kind in inspect.getmembers(errors, inspect.isclass)]
        self.assertEqual(sorted(found), sorted(BASES))

    def test_row_errors_keep_their_number(self):
        for name in WITH_ROW:
            for row in (0, 1, 47, int("9" * 80)):
                with self.subTest(name, row=row):
                    refusal = getattr(errors, name)(row)
                    self.assertEqual(refusal.row, row)
                    self.assertIs(type(refusal.row), int)

    def test_row_errors_need_their_number(self):
        for name in WITH_ROW:
            with self.subTest(name):
                self.assertRaises(TypeError, getattr(errors, name))

    def test_the_others_have_no_row(self):
        for name in BASES:
            if name not in WITH_ROW:
                with self.subTest(name):
                    self.assertFalse(hasattr(getattr(errors, name)(), "row"))

    def test_each_can_be_raised_and_taken_by_the_one_base(self):
        for name in BASES:
            with self.subTest(name), self.assertRaises(errors.HallError):
                raise getattr(errors, name)(*([7] if name in WITH_ROW else []))


if __name__ == "__main__":
    unittest.main()
