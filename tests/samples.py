"""Values that several test files share."""

import itertools
import unittest

from pictureframes.effects import Effect
from pictureframes.errors import InvalidSequence
from pictureframes.frames import Frame
from pictureframes.pictures import Picture
from pictureframes.symmetries import Symmetry

SIDES = ("top", "right", "bottom", "left")
NO_COUNTS = (True, False, -1, -10 ** 99, None, "1", "", b"1", (1,), [1], {}, object(), int)
NO_LENGTHS = (0,) + NO_COUNTS
NO_COLOURS = NO_COUNTS
NO_SIDES = ("", "up", "Top", "top ", "topright", b"top", None, True, 0, 1, ("top",), ["top"], {}, object(), str)
NO_PICTURES = (None, True, 0, "1", [[1]], ((1,),), [], {}, object())
NO_SYMMETRIES = (None, True, 0, 1, "", "turn", (0, False), [("turn",)], Picture([[1]]), object(), Symmetry)
NO_FRAMES = (None, True, 0, "", [], (), [("top", 1)], (("top", 1),), Picture([[1]]), Symmetry(), object(), Frame)
NO_EFFECTS = (
    None, True, 0, "", [], (), [("turn",)], ("cut", "top"), (Symmetry(), (0, 0, 0, 0), Frame(())), Frame(()),
    Symmetry(), Picture([[1]]), object(), Effect,
)
NAMES = ("a", "z", "ann", "abcdefgh", "zzzzzzzz")
NO_NAMES = (
    None, True, 0, "", "abcdefghi", "A", "Ann", "aB", "a1", "1", "a b", " a", "a ", "a_b", "a-b", "-", "a\n", "\n",
    b"a", ("a",), ["a"], {"a": 1}, {"a"}, object(), str,
)
UNLIKE = ((1, 2, 3), (4, 5, 6))
# Larger than all colours of steps in the tests.
FRESH = 1000

TURN = ("turn",)
MIRROR = ("mirror",)
NO_SEQUENCES = (
    None, True, False, 0, 1, "", "turn", b"", {}, {0: TURN}, {TURN}, object(), range(0), iter([TURN]), TURN.__class__,
    Picture([[1]]), [TURN] * 201, (TURN,) * 201, [None] * 201, [TURN] * 1000,
)
NO_STEPS = (
    None, True, 0, "", "turn", b"turn", [], {}, object(), Picture([[1]]),
    (), ["turn"], ["mirror"], ["cut", "top"], ["add", "top", 1],
    ("Turn",), ("turns",), ("",), (b"turn",), (None,), (0,), (["turn"],), (("turn",),), ({},), (Picture([[1]]),),
    ("turn", "turn"), ("turn", 1), ("turn", None), ("turn", "top"), ("mirror", "top"), ("mirror", 0), ("mirror", None),
    ("cut",), ("cut", "top", 1), ("cut", "top", None), ("cut", "top", "top"), ("add",), ("add", "top"), ("add", 1),
    ("add", "top", 1, 1), ("add", "top", 1, None), ("add", 1, "top"), ("top", "cut"), ("top",), ("cuts", "top"),
    (None, "top"),
    ("added", "top", 1), (None, "top", 1), ("turn", "top", 1), ("cut", "add", 1),
)


def all_wrong_steps():
    """Return the wrong steps above, and those with a wrong side or colour."""
    wrong = list(NO_STEPS)
    wrong.extend([("cut", value) for value in NO_SIDES])
    wrong.extend([("add", value, 1) for value in NO_SIDES])
    wrong.extend([("add", "top", value) for value in NO_COLOURS])
    return wrong


def all_steps(colours):
    """Return the steps with these colours."""
    adding = [("add", side, colour) for side in SIDES for colour in colours]
    return [TURN, MIRROR] + [("cut", side) for side in SIDES] + adding


def all_lists(items, most):
    """Return all lists of at most so many of these items."""
    return [list(chosen) for many in range(most + 1) for chosen in itertools.product(items, repeat=many)]


def some_steps(random, many, colours=(1, 2, 3), words=("turn", "mirror", "cut", "cut", "add", "add", "add")):
    """Return a list of so many steps that a generator of random numbers chooses."""
    steps = []
    for _ in range(many):
        word = random.choice(words)
        if word == "add":
            steps.append((word, random.choice(SIDES), random.choice(colours)))
        elif word == "cut":
            steps.append((word, random.choice(SIDES)))
        else:
            steps.append((word,))
    return steps


def some_lines(random, many, colours=(1, 2), sides=SIDES):
    """Return a list of so many lines that a generator of random numbers chooses."""
    return [(random.choice(sides), random.choice(colours)) for _ in range(many)]


def fresh_picture(height, width):
    """Return a picture whose cells are unlike each other and all colours of steps in the tests."""
    return Picture.numbered(height, width, first=FRESH)


class RaisingCase(unittest.TestCase):
    """A test case that looks at the fields of errors."""

    def assert_raises(self, error, fields, call, *args, **named):
        """Demand exactly this error; each field is the very object, or an equal integer or tuple."""
        with self.assertRaises(error) as caught:
            call(*args, **named)
        self.assertIs(type(caught.exception), error)
        for field, expected in fields.items():
            held = getattr(caught.exception, field)
            self.assertIs(type(held), type(expected))
            if held is not expected:
                self.assertIsInstance(held, (int, tuple))
                self.assertEqual(held, expected)

    def assert_refuses_steps(self, call):
        """Demand that a call with one argument refuses all that is no sequence."""
        for value in NO_SEQUENCES:
            self.assert_raises(InvalidSequence, {"index": None}, call, value)
        for wrong in all_wrong_steps():
            self.assert_raises(InvalidSequence, {"index": 0}, call, (wrong, wrong))
            self.assert_raises(InvalidSequence, {"index": 2}, call, [TURN, ("add", "top", 1), wrong, TURN, wrong])
        self.assert_raises(InvalidSequence, {"index": 199}, call, [TURN] * 199 + [None])
