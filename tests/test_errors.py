"""[2] and the section pictureframes/errors.py: every class, its fields and its base class."""

import unittest

from pictureframes import errors

FIELDS = {
    "InvalidColour": ("value",),
    "InvalidSide": ("value",),
    "InvalidPicture": ("value",),
    "InvalidSequence": ("index",),
    "InvalidSymmetry": ("value",),
    "InvalidFrame": ("index",),
    "InvalidEffect": ("value",),
    "InvalidCount": ("value",),
    "InvalidWishes": ("index",),
    "InvalidName": ("value",),
    "InvalidCommand": ("word",),
    "ParseError": ("text",),
    "LastLine": ("index",),
    "TooSmall": ("least_height", "least_width"),
    "OutOfRange": ("value",),
    "LimitExceeded": ("count",),
    "UnknownName": ("name",),
    "NothingToUndo": (),
}
OTHER_BASES = {
    "LastLine": RuntimeError,
    "TooSmall": LookupError,
    "OutOfRange": IndexError,
    "LimitExceeded": OverflowError,
    "UnknownName": KeyError,
    "NothingToUndo": RuntimeError,
}


class Unshowable:
    """A value of which no text can be made."""

    def __repr__(self):
        raise RuntimeError("no text")

    __str__ = __repr__


ANY_VALUES = (
    None, True, False, 0, -1, 10 ** 99, "", "top", b"x", [1, [2]], (1, 2), {}, {1}, 1.5, object(), int, Unshowable(),
)


class TestErrors(unittest.TestCase):

    def test_fields_by_position(self):
        for name, fields in FIELDS.items():
            for value in ANY_VALUES:
                values = [value, "second"][:len(fields)]
                error = getattr(errors, name)(*values)
                for field, expected in zip(fields, values):
                    self.assertIs(getattr(error, field), expected, name)

    def test_fields_by_name(self):
        for name, fields in FIELDS.items():
            for value in ANY_VALUES:
                values = dict(reversed(list(zip(fields, [value, "second"]))))
                error = getattr(errors, name)(**values)
                for field, expected in values.items():
                    self.assertIs(getattr(error, field), expected, name)

    def test_two_fields_stand_in_their_order(self):
        error = errors.TooSmall(3, 4)
        self.assertEqual((error.least_height, error.least_width), (3, 4))

    def test_fields_are_required(self):
        for name, fields in FIELDS.items():
            if fields:
                with self.assertRaises(TypeError):
                    getattr(errors, name)()

    def test_picture_error(self):
        self.assertEqual(errors.PictureError.__bases__, (ValueError,))
        self.assertIsInstance(errors.PictureError(), ValueError)
        self.assertIsInstance(errors.PictureError("some text"), ValueError)

    def test_base_classes(self):
        for name in FIELDS:
            base = OTHER_BASES.get(name, errors.PictureError)
            self.assertEqual(getattr(errors, name).__bases__, (base,), name)

    def test_instance_of_none_of_the_others(self):
        for name, fields in FIELDS.items():
            error = getattr(errors, name)(*[None] * len(fields))
            for other in FIELDS:
                self.assertEqual(isinstance(error, getattr(errors, other)), other == name, (name, other))
            self.assertEqual(isinstance(error, errors.PictureError), name not in OTHER_BASES, name)

    def test_defined_in_this_file(self):
        for name in [*FIELDS, "PictureError"]:
            self.assertEqual(getattr(errors, name).__module__, "pictureframes.errors")

    def test_each_is_raised_and_caught_by_its_name(self):
        for name, fields in FIELDS.items():
            wanted = getattr(errors, name)
            with self.assertRaises(wanted):
                raise wanted(*[Unshowable()] * len(fields))


if __name__ == "__main__":
    unittest.main()
