"""The errors of the interface: their fields, by position and by name, and their direct bases."""

import unittest

from textboxes import errors

FIELDS = {
    "BadProgram": "part",
    "BadText": "line",
    "NotLetter": "letter",
    "BadLetters": "letter",
    "OtherLetters": "letter",
    "TooMany": "what",
    "BadTable": "place",
    "BadBox": "box",
    "BadWorths": "letter",
    "BadNumber": "number",
    "BadGreat": "index",
    "BadPiece": "number",
}

VALUES = ["letters", "", 3, -1, 10 ** 5000, None, True, 1.5, b"a", [1, [2]], (), {"a": {}}, object(), ValueError]


class Unshowable:
    def __repr__(self):
        raise RuntimeError("not to be shown")

    __str__ = __repr__


class Errors(unittest.TestCase):
    def test_bases(self):
        self.assertEqual(errors.BoxError.__bases__, (ValueError,))
        for name in [*FIELDS, "NoDeed"]:
            self.assertEqual(getattr(errors, name).__bases__, (errors.BoxError,), name)

    def test_there_are_thirteen(self):
        found = [
            thing for thing in vars(errors).values() if isinstance(thing, type) and thing is not errors.BoxError
        ]
        self.assertEqual(sorted(thing.__name__ for thing in found), sorted([*FIELDS, "NoDeed"]))

    def test_fields_by_position(self):
        for name, field in FIELDS.items():
            for value in VALUES + [Unshowable()]:
                self.assertIs(getattr(getattr(errors, name)(value), field), value, name)

    def test_fields_by_name(self):
        for name, field in FIELDS.items():
            for value in VALUES + [Unshowable()]:
                self.assertIs(getattr(getattr(errors, name)(**{field: value}), field), value, name)

    def test_wrong_numbers_of_fields(self):
        for name in FIELDS:
            with self.assertRaises(TypeError):
                getattr(errors, name)()
            with self.assertRaises(TypeError):
                getattr(errors, name)(1, 2)
        with self.assertRaises(TypeError):
            errors.NoDeed(1)

    def test_box_error_takes_any_value(self):
        for value in VALUES + [Unshowable()]:
            with self.assertRaises(ValueError):
                raise errors.BoxError(value)

    def test_no_deed(self):
        with self.assertRaises(errors.BoxError):
            raise errors.NoDeed()

    def test_all_are_caught_as_box_errors(self):
        for name in FIELDS:
            with self.assertRaises(errors.BoxError):
                raise getattr(errors, name)("a")


if __name__ == "__main__":
    unittest.main()
