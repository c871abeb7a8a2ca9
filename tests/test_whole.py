"""[2] and [3] (i) over the whole program: what holds of every function, every argument and every returned value."""

import copy
import itertools
import random
import unittest

from pictureframes.algebra import undo
from pictureframes.console import Console
from pictureframes.effects import Effect
from pictureframes.errors import PictureError
from pictureframes.formats import (
    format_effect, format_picture, format_steps, parse_effect, parse_picture, parse_steps,
)
from pictureframes.frames import Frame
from pictureframes.galleries import Gallery
from pictureframes.observations import agreeing_effects, effects_between
from pictureframes.painting import paint
from pictureframes.pictures import Picture
from pictureframes.plans import distance, plan
from pictureframes.powers import power_colour, power_summary
from pictureframes.running import check_steps, pictures_along, run
from pictureframes.shortening import hidden_pairs, shortest
from pictureframes.sizes import act_alike, differing_picture, outcome, running_size
from pictureframes.symmetries import Symmetry
from samples import some_steps

STEPS = [("add", "top", 7), ("turn",), ("cut", "right"), ("add", "left", 8), ("mirror",), ("cut", "bottom")]
START = Picture([[1, 2, 3], [4, 5, 6]])


def calls_with_lists():
    """Return calls as (function, arguments), all of which take a list or a dict."""
    wishes = [(-1, 0, 7), (-1, -1, 8)]
    observations = [(Picture([[1]]), Picture([[1, 2]])), (Picture([[3]]), Picture([[3, 2]]))]
    return [
        (Picture, ([[1, 2], [3, 4]],)), (Frame, ([("top", 7), ("left", 8)],)), (check_steps, (STEPS,)),
        (run, (START, STEPS)), (lambda picture, steps: list(pictures_along(picture, steps)), (START, STEPS)),
        (Effect.of, (STEPS,)), (outcome, (STEPS, 4, 4)), (act_alike, (STEPS, STEPS[:3])),
        (differing_picture, (STEPS, STEPS[:3])), (running_size, (STEPS,)), (hidden_pairs, (STEPS,)),
        (agreeing_effects, (observations,)), (paint, (wishes,)), (format_steps, (STEPS,)),
        (Gallery, ({"a": START, "b": Picture([[1]])},)),
        (lambda steps: Gallery({"a": START}).run("ann", "a", steps), (STEPS,)),
    ]


def calls_that_return_lists():
    """Return calls without arguments that return lists or dicts."""
    frame = Frame([("top", 7), ("left", 8), ("top", 9)])
    effect = Effect(Symmetry(1), (1, 0, 2, 0), frame)
    gallery = Gallery({"a": START, "b": START})
    gallery.run("ann", "a", STEPS)
    pair = (Picture([[1, 2]]), Picture([[7, 7], [1, 2]]))
    return [
        Symmetry.every, Symmetry(3).steps, lambda: frame.colours("top"), frame.order, frame.peelable,
        lambda: next(frame.orders()), lambda: undo(Effect(Symmetry(1), (0, 0, 0, 0), frame)), lambda: shortest(effect),
        lambda: hidden_pairs(STEPS), lambda: effects_between(*pair), lambda: agreeing_effects([pair]),
        lambda: plan(START, Picture([[7]])), lambda: parse_steps("turn; cut top"), lambda: gallery.names,
        lambda: gallery.entries, lambda: list(gallery.copy().undo("ann")[2]),
    ]


class TestWhole(unittest.TestCase):

    def test_arguments_do_not_change(self):
        for function, arguments in calls_with_lists():
            before = copy.deepcopy(arguments)
            function(*arguments)
            self.assertEqual(arguments, before)

    def test_returned_lists_are_new(self):
        for call in calls_that_return_lists():
            first = call()
            kept = copy.deepcopy(first)
            self.assertIs(type(first), list)
            self.assertGreater(len(first), 0)
            first.clear()
            self.assertEqual(call(), kept)

    def test_objects_are_equal_to_no_others(self):
        frame = Frame([])
        values = [
            START, Symmetry(), frame, Effect.identity(), Gallery({"a": START}), Console(), START.rows, [], (), {}, 0, 1,
            None, False, True, "", repr(START), frame.order(), (Symmetry(), (0, 0, 0, 0), frame),
        ]
        for one, other in itertools.permutations(values, 2):
            if isinstance(one, (Picture, Symmetry, Frame, Effect, Gallery, Console)):
                self.assertFalse(one == other)
                self.assertTrue(one != other)
                self.assertFalse(other == one)

    def test_true_and_false_are_no_integers(self):
        effect = Effect.of([("add", "top", 7)])
        for value in (True, False):
            for call in (
                lambda: Picture([[value]]), lambda: Picture.filled(value, 1, 1), lambda: Picture.filled(1, value, 1),
                lambda: Picture.filled(1, 1, value), lambda: Picture.numbered(1, 1, first=value),
                lambda: START.added("top", value), lambda: Symmetry(value), lambda: Frame([("top", value)]),
                lambda: check_steps([("add", "top", value)]), lambda: Effect(Symmetry(), (0, 0, 0, value), Frame([])),
                lambda: outcome([], value, 1), lambda: outcome([], 1, value), lambda: power_summary(effect, value),
                lambda: power_colour(effect, value, -1, 0), lambda: paint([(value, 1, 1)]),
                lambda: paint([(1, value, 1)]), lambda: paint([(1, 1, value)]),
            ):
                self.assertRaises(PictureError, call)
            for call in (
                lambda: START[value, 0], lambda: START[0, value], lambda: effect.frame.colour(value, 0),
                lambda: power_colour(effect, 1, -1, value), lambda: Frame.around(START, value, 0, 1, 1),
            ):
                self.assertRaises(IndexError, call)

    def test_renamed_colours(self):
        chosen = random.Random(1)
        names = {0: 10 ** 99, 1: 0, 2: 3, 3: 1}
        for _ in range(60):
            start = Picture([[chosen.choice((0, 1, 2, 3)) for _ in range(7)] for _ in range(7)])
            steps = some_steps(chosen, 6, (0, 1, 2, 3), ("turn", "mirror", "cut", "add", "add"))
            renamed_start = Picture([[names[colour] for colour in row] for row in start.rows])
            renamed_steps = [("add", step[1], names[step[2]]) if step[0] == "add" else step for step in steps]
            result = Effect.of(steps).apply(start)
            renamed = Effect.of(renamed_steps).apply(renamed_start)
            self.assertEqual(renamed.rows, tuple(tuple(names[colour] for colour in row) for row in result.rows))
            self.assertEqual(distance(renamed_start, renamed), distance(start, result))
            self.assertEqual(hidden_pairs(renamed_steps), hidden_pairs(steps))

    def test_formatted_values_are_parsed_back(self):
        chosen = random.Random(2)
        for _ in range(60):
            steps = tuple(some_steps(chosen, chosen.randrange(12), (0, 1, 10 ** 99)))
            self.assertEqual(parse_steps(format_steps(steps)), list(steps))
            effect = Effect.of(steps)
            self.assertEqual(parse_effect(format_effect(effect)), effect)
            height, width = effect.smallest
            picture = effect.apply(Picture.numbered(height, width))
            self.assertEqual(parse_picture(format_picture(picture)), picture)
            # The empty sequence and those of the answers of other functions have texts, too.
            self.assertEqual(parse_steps(format_steps(shortest(effect))), shortest(effect))


if __name__ == "__main__":
    unittest.main()
