"""Points 2 and the interface of errors.py: the classes of refusals and their fields."""

import unittest

from saidground import errors

WITHOUT_FIELDS = ("NoHand", "NoHands", "NoCard", "NoWords", "NoLines", "NoEntry", "NoSlots", "NoBack")
FIELDS = {"NoHistory": "wrong", "NoLetter": "wrong", "NoView": "wrong", "NoViews": "wrong", "NoSaying": "wrong",
          "NoDeed": "wrong", "NoLetters": "at", "NoText": "row"}


class Errors(unittest.TestCase):
    def test_all_stand_straight_under_said_error(self):
        self.assertEqual(errors.SaidError.__bases__, (ValueError,))
        for name in (*WITHOUT_FIELDS, *FIELDS):
            made = getattr(errors, name)
            self.assertEqual(made.__bases__, (errors.SaidError,), name)
            self.assertEqual(made.__module__, "saidground.errors", name)

    def test_without_fields(self):
        for name in WITHOUT_FIELDS:
            with self.assertRaises(errors.SaidError):
                raise getattr(errors, name)()

    def test_each_is_one_of_its_own_class_alone(self):
        for name in (*WITHOUT_FIELDS, *FIELDS):
            error = getattr(errors, name)()
            self.assertIsInstance(error, errors.SaidError)
            self.assertIsInstance(error, ValueError)
            others = [other for other in (*WITHOUT_FIELDS, *FIELDS) if isinstance(error, getattr(errors, other))]
            self.assertEqual(others, [name])

    def test_fields_by_places_by_names_and_left_out(self):
        for name, field in FIELDS.items():
            made = getattr(errors, name)
            self.assertEqual(getattr(made(("deed", 3)), field), ("deed", 3), name)
            self.assertEqual(getattr(made(**{field: 5}), field), 5, name)
            self.assertTrue(hasattr(made(), field), name)

    def test_an_error_keeps_its_own_field(self):
        one, other = errors.NoText(1), errors.NoText(2)
        self.assertEqual((one.row, other.row), (1, 2))


if __name__ == "__main__":
    unittest.main()
