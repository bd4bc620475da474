"""[1], [2], [5]: the errors."""

import unittest

from addnests import errors

FIELDS = {
    "InvalidNumber": "value",
    "InvalidCell": "value",
    "InvalidNest": "value",
    "InvalidProgram": "value",
    "InvalidOrder": "value",
    "InvalidList": "value",
    "InvalidText": "value",
    "InvalidFamily": "value",
    "UnlikeAxes": "axes",
    "NotStraight": "place",
    "Negative": "place",
    "NegativeCount": "number",
    "InvalidName": "name",
    "TakenName": "name",
    "UnknownName": "name",
}


class Errors(unittest.TestCase):
    def test_base_classes(self):
        self.assertEqual(errors.AddError.__bases__, (ValueError,))
        for name in list(FIELDS) + ["NothingToUndo"]:
            with self.subTest(name):
                self.assertEqual(getattr(errors, name).__bases__, (errors.AddError,))
                self.assertEqual(getattr(errors, name).__module__, "addnests.errors")

    def test_field_by_position_by_name_and_left_out(self):
        for name, field in FIELDS.items():
            for value in [None, True, 0, -10 ** 100, "", "text", [], [[1]], (1, 2), {}, {"a": 1}]:
                with self.subTest(name, value=value):
                    kind = getattr(errors, name)
                    self.assertIs(getattr(kind(value), field), value)
                    self.assertIs(getattr(kind(**{field: value}), field), value)
            with self.subTest(name):
                self.assertIsNone(getattr(getattr(errors, name)(), field))

    def test_field_of_one_kind_only(self):
        for name, field in FIELDS.items():
            for other in sorted(set(FIELDS.values()) - {field}):
                with self.subTest(name, other=other):
                    self.assertFalse(hasattr(getattr(errors, name)(1), other))

    def test_nothing_to_undo(self):
        with self.assertRaises(errors.AddError):
            raise errors.NothingToUndo()
        for field in sorted(set(FIELDS.values())):
            self.assertFalse(hasattr(errors.NothingToUndo(), field))

    def test_raised_and_caught(self):
        for name in FIELDS:
            with self.subTest(name):
                held = [name]
                with self.assertRaises(ValueError) as caught:
                    raise getattr(errors, name)(held)
                self.assertIs(getattr(caught.exception, FIELDS[name]), held)


if __name__ == "__main__":
    unittest.main()
