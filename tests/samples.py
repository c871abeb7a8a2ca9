"""Values that several test files share."""

import unittest

SIDES = ("top", "right", "bottom", "left")
NO_COUNTS = (True, False, -1, -10 ** 99, None, "1", "", b"1", (1,), [1], {}, object(), int)
NO_LENGTHS = (0,) + NO_COUNTS
NO_COLOURS = NO_COUNTS
NO_SIDES = ("", "up", "Top", "top ", "topright", b"top", None, True, 0, 1, ("top",), ["top"], {}, object(), str)
NO_PICTURES = (None, True, 0, "1", [[1]], ((1,),), [], {}, object())
UNLIKE = ((1, 2, 3), (4, 5, 6))


class RaisingCase(unittest.TestCase):
    """A test case that looks at the fields of errors."""

    def assert_raises(self, error, fields, call, *args, **named):
        """Demand exactly this error; each field is the very object, or an equal integer or tuple."""
        with self.assertRaises(error) as caught:
            call(*args, **named)
        self.assertIs(type(caught.exception), error)
        for field, expected in fields.items():
            held = getattr(caught.exception, field)
            self.assertIs(type(held), type(expected))
            if held is not expected:
                self.assertIsInstance(held, (int, tuple))
                self.assertEqual(held, expected)
