"""[9], [3] (a), (i) and the section pictureframes/effects.py."""

import functools
import random

from pictureframes.effects import Effect
from pictureframes.errors import (
    InvalidEffect, InvalidFrame, InvalidPicture, InvalidSymmetry, LimitExceeded, TooSmall,
)
from pictureframes.frames import Frame
from pictureframes.pictures import Picture
from pictureframes.running import run
from pictureframes.symmetries import Symmetry
from samples import (
    MIRROR, NO_COUNTS, NO_EFFECTS, NO_FRAMES, NO_PICTURES, NO_SYMMETRIES, SIDES, TURN, RaisingCase, all_lists,
    all_steps, fresh_picture, some_steps,
)

KEPT = (0, 0, 0, 0)
NO_LOST = (
    None, True, 0, 4, "", "0000", b"", [0, 0, 0, 0], {}, object(), Frame([]), (), (0,), (0, 0, 0), (0, 0, 0, 0, 0),
    (KEPT,),
    *[(0,) * place + (value,) + (0,) * (3 - place) for place in range(4) for value in NO_COUNTS],
)


def larger_sequences():
    """Return longer sequences, up to 200 steps."""
    chosen = random.Random(3)
    found = [some_steps(chosen, many) for many in (4, 5, 6, 8, 10, 15, 25) for _ in range(40)]
    cutting = ("turn", "mirror", "cut", "cut", "cut", "add")
    found.extend([some_steps(chosen, many, words=cutting) for many in (5, 10, 25) for _ in range(20)])
    found.extend([some_steps(chosen, 200) for _ in range(3)])
    return found


@functools.cache
def all_sequences():
    """Return all sequences of at most three steps with two colours."""
    return all_lists(all_steps((1, 2)), 3)


def sizes_from(effect):
    """Return the smallest large enough size and some greater ones."""
    height, width = effect.smallest
    return [(height, width), (height + 1, width + 1), (height, width + 2), (height + 3, width)]


class TestExamples(RaisingCase):

    def test_of(self):
        effect = Effect.of([("cut", "top"), ("add", "top", 7), ("turn",)])
        parts = (effect.symmetry.turns, effect.lost, effect.frame.order())
        self.assertEqual(repr(parts), "(1, (1, 0, 0, 0), [('right', 7)])")

    def test_apply(self):
        effect = Effect.of([("cut", "top")])
        self.assert_raises(TooSmall, {"least_height": 2, "least_width": 1}, effect.apply, Picture([[1, 2]]))

    def test_then(self):
        add = Effect.of([("add", "top", 7)])
        cut = Effect.of([("cut", "top")])
        self.assertEqual(repr((add.then(cut).lost, cut.then(add).lost)), "((0, 0, 0, 0), (1, 0, 0, 0))")


class TestMaking(RaisingCase):

    def test_parts(self):
        frame = Frame([("top", 7)])
        for symmetry in Symmetry.every():
            for lost in (KEPT, (1, 2, 3, 4), (10 ** 99, 0, 0, 10 ** 50)):
                for effect in (Effect(symmetry, lost, frame), Effect(frame=frame, lost=lost, symmetry=symmetry)):
                    self.assertEqual(effect.symmetry, symmetry)
                    self.assertEqual(effect.lost, lost)
                    self.assertIs(type(effect.lost), tuple)
                    self.assertEqual(effect.frame, frame)

    def test_smallest(self):
        effect = Effect(Symmetry(1), (1, 20, 300, 4000), Frame([("top", 1)] * 9))
        self.assertEqual(effect.smallest, (302, 4021))
        self.assertIs(type(effect.smallest), tuple)
        self.assertEqual(Effect(Symmetry(), (10 ** 99, 0, 1, 0), Frame([])).smallest, (10 ** 99 + 2, 1))
        self.assertEqual(Effect.identity().smallest, (1, 1))

    def test_refused(self):
        for value in NO_SYMMETRIES:
            self.assert_raises(InvalidSymmetry, {"value": value}, Effect, value, KEPT, Frame([]))
        for value in NO_LOST:
            self.assert_raises(InvalidEffect, {"value": value}, Effect, Symmetry(), value, Frame([]))
        for value in NO_FRAMES:
            self.assert_raises(InvalidFrame, {"index": None}, Effect, Symmetry(), KEPT, value)

    def test_leftmost_is_raised(self):
        self.assert_raises(InvalidSymmetry, {"value": 1}, Effect, 1, 2, 3)
        self.assert_raises(InvalidSymmetry, {"value": 1}, Effect, frame=3, lost=2, symmetry=1)
        self.assert_raises(InvalidEffect, {"value": 2}, Effect, Symmetry(), 2, 3)
        self.assert_raises(InvalidEffect, {"value": 2}, Effect, frame=3, lost=2, symmetry=Symmetry())

    def test_identity(self):
        effect = Effect.identity()
        self.assertIs(type(effect), Effect)
        self.assertEqual((effect.symmetry, effect.lost, effect.frame), (Symmetry(), KEPT, Frame([])))
        self.assertEqual(effect, Effect.of([]))
        self.assertEqual(effect.apply(fresh_picture(1, 1)), fresh_picture(1, 1))

    def test_equality(self):
        effects = [
            Effect(symmetry, lost, frame)
            for symmetry in Symmetry.every()
            for lost in (KEPT, (1, 0, 0, 0), (0, 1, 0, 0), (0, 0, 1, 0), (0, 0, 0, 1))
            for frame in (Frame([]), Frame([("top", 1)]), Frame([("top", 2)]), Frame([("bottom", 1)]))
        ]
        for place, one in enumerate(effects):
            for other_place, other in enumerate(effects):
                self.assertIs(one == other, place == other_place)
                self.assertIs(one != other, place != other_place)
        one = Effect(Symmetry(1), (1, 0, 0, 0), Frame([("left", 7), ("top", 7)]))
        self.assertIs(one == Effect(Symmetry(1), (1, 0, 0, 0), Frame([("top", 7), ("left", 7)])), True)

    def test_other_values(self):
        effect = Effect.of([("cut", "top")])
        parts = (effect.symmetry, effect.lost, effect.frame)
        for value in NO_EFFECTS + parts + (parts, repr(effect)):
            self.assertIs(effect == value, False)
            self.assertIs(value == effect, False)
            self.assertIs(effect != value, True)

    def test_repr(self):
        self.assertEqual(repr(Effect.identity()), "Effect(Symmetry(0, False), (0, 0, 0, 0), Frame([]))")
        effect = Effect(Symmetry(3, True), (1, 2, 3, 4), Frame([("left", 7), ("top", 7)]))
        expected = "Effect(Symmetry(3, True), (1, 2, 3, 4), Frame([('top', 7), ('left', 7)]))"
        self.assertEqual(repr(effect), expected)


class TestOf(RaisingCase):

    def check(self, steps):
        effect = Effect.of(steps)
        for height, width in sizes_from(effect):
            picture = fresh_picture(height, width)
            result = effect.apply(picture)
            self.assertIs(type(result), Picture)
            self.assertEqual(result, run(picture, steps))
            self.assertEqual(picture, fresh_picture(height, width))

    def test_all_short_sequences(self):
        for steps in all_sequences():
            self.check(steps)

    def test_longer_sequences(self):
        for steps in larger_sequences():
            self.check(steps)

    def test_lists_and_tuples(self):
        steps = [("cut", "top"), TURN, ("add", "left", 3)]
        effect = Effect.of(steps)
        self.assertIs(type(effect), Effect)
        self.assertEqual(Effect.of(steps=tuple(steps)), effect)
        self.assertEqual(steps, [("cut", "top"), TURN, ("add", "left", 3)])
        steps[0] = ("cut", "left")
        self.assertEqual(effect, Effect.of((("cut", "top"), TURN, ("add", "left", 3))))

    def test_smallest_is_exact(self):
        for steps in larger_sequences():
            height, width = Effect.of(steps).smallest
            for smaller in ((height - 1, width), (height, width - 1)):
                if min(smaller) == 0:
                    continue
                # A smaller picture fails, or nothing of it is left.
                try:
                    rows = run(fresh_picture(*smaller), steps).rows
                except RuntimeError:
                    continue
                self.assertLess(max(max(row) for row in rows), 1000)

    def test_equal_effects_are_those_that_act_alike(self):
        known = {}
        effects = {}
        for steps in all_sequences():
            effect = Effect.of(steps)
            rows = run(fresh_picture(5, 5), steps).rows
            self.assertEqual(known.setdefault(rows, effect), effect)
            self.assertEqual(effects.setdefault(repr(effect), rows), rows)
        self.assertEqual(len(known), len(effects))

    def test_cuts_of_lines_that_are_hidden(self):
        # The top line can't be peeled: its corner belongs to the left line, and goes with it.
        effect = Effect.of([("add", "top", 1), ("add", "left", 2), ("cut", "top")])
        self.assertEqual((effect.lost, effect.frame), (KEPT, Frame([("left", 2)])))

    def test_lost_lines_are_those_of_the_original(self):
        effect = Effect.of([TURN, ("cut", "top"), ("cut", "top"), MIRROR, ("cut", "right")])
        # After a turn the top is the original's left; mirrored, the right is what was the left, its bottom.
        self.assertEqual(effect.lost, (0, 0, 1, 2))
        self.assertEqual(effect.symmetry, Symmetry(1) * Symmetry(0, True))

    def test_two_hundred_steps(self):
        self.assertEqual(len(Effect.of([("add", "top", 1)] * 200).frame), 200)
        self.assertEqual(Effect.of([("cut", "left")] * 200).lost, (0, 0, 0, 200))
        self.assertEqual(Effect.of([TURN] * 199).symmetry, Symmetry(3))

    def test_refused(self):
        self.assert_refuses_steps(Effect.of)


class TestApply(RaisingCase):

    def test_too_small(self):
        for steps in larger_sequences():
            effect = Effect.of(steps)
            height, width = effect.smallest
            fields = {"least_height": height, "least_width": width}
            for smaller in ((height - 1, width), (height, width - 1), (1, 1), (1, width + 5), (height + 5, 1)):
                if 0 in smaller or (smaller[0] >= height and smaller[1] >= width):
                    continue
                self.assert_raises(TooSmall, fields, effect.apply, fresh_picture(*smaller))

    def test_each_side_counts(self):
        for place, side in enumerate(SIDES):
            lost = tuple(2 if place == other else 0 for other in range(4))
            effect = Effect(Symmetry(), lost, Frame([]))
            least = (3, 1) if side in ("top", "bottom") else (1, 3)
            self.assertEqual(effect.smallest, least)
            fields = {"least_height": least[0], "least_width": least[1]}
            self.assert_raises(TooSmall, fields, effect.apply, fresh_picture(2, 2))
            self.assertEqual(effect.apply(picture=fresh_picture(3, 3)), run(fresh_picture(3, 3), [("cut", side)] * 2))

    def test_huge_losses(self):
        effect = Effect(Symmetry(), (0, 10 ** 99, 0, 0), Frame([]))
        fields = {"least_height": 1, "least_width": 10 ** 99 + 1}
        self.assert_raises(TooSmall, fields, effect.apply, fresh_picture(2, 2))

    def test_refused(self):
        for value in NO_PICTURES:
            self.assert_raises(InvalidPicture, {"value": value}, Effect.of([("cut", "top")]).apply, value)


class TestThen(RaisingCase):

    def check(self, one_steps, other_steps):
        one, other = Effect.of(one_steps), Effect.of(other_steps)
        result = one.then(other)
        self.assertIs(type(result), Effect)
        self.assertEqual(result, Effect.of(one_steps + other_steps))
        self.assertEqual((one, other), (Effect.of(one_steps), Effect.of(other_steps)))

    def test_all_short_sequences(self):
        for steps in all_sequences():
            for place in range(len(steps) + 1):
                self.check(steps[:place], steps[place:])

    def test_longer_sequences(self):
        chosen = random.Random(8)
        sequences = [steps for steps in larger_sequences() if len(steps) <= 100]
        for steps in sequences:
            self.check(steps, chosen.choice(sequences))

    def test_by_name(self):
        one, other = Effect.of([("add", "top", 7)]), Effect.of([TURN])
        self.assertEqual(one.then(other=other), one.then(other))

    def test_identity(self):
        for steps in larger_sequences():
            effect = Effect.of(steps)
            self.assertEqual(effect.then(Effect.identity()), effect)
            self.assertEqual(Effect.identity().then(effect), effect)

    def test_huge_losses(self):
        one = Effect(Symmetry(1), (10 ** 50, 0, 0, 1), Frame([("top", 7), ("top", 8)]))
        other = Effect(Symmetry(0, True), (10 ** 60, 3, 0, 0), Frame([("left", 9)]))
        result = one.then(other)
        # The top of the turned picture is the original's left, and its right the original's top.
        self.assertEqual(result.lost, (10 ** 50 + 3, 0, 0, 10 ** 60 - 1))
        self.assertEqual(result.frame, Frame([("left", 9)]))
        self.assertEqual(result.symmetry, Symmetry(3, True))

    def test_two_hundred_lines(self):
        for side in SIDES:
            many = Effect.of([("add", side, 1)] * 150)
            self.assertEqual(len(many.then(Effect.of([("add", side, 2)] * 50)).frame), 200)
            self.assert_raises(LimitExceeded, {"count": 201}, many.then, Effect.of([("add", "top", 2)] * 51))
            self.assert_raises(LimitExceeded, {"count": 350}, many.then, Effect.of([("add", "left", 2)] * 200))
            fewer = Effect(Symmetry(), tuple(7 if side == other else 0 for other in SIDES), Frame([("top", 3)] * 57))
            self.assertEqual(len(many.then(fewer).frame), 200)
            more = Effect(Symmetry(), tuple(7 if side == other else 0 for other in SIDES), Frame([("top", 3)] * 58))
            self.assert_raises(LimitExceeded, {"count": 201}, many.then, more)

    def test_refused(self):
        full = Effect.of([("add", "top", 1)] * 200)
        for effect in (Effect.identity(), full):
            for value in NO_EFFECTS:
                self.assert_raises(InvalidEffect, {"value": value}, effect.then, value)


class TestRenaming(RaisingCase):

    def test_colours(self):
        names = {1: 2, 2: 3, 3: 1}
        for steps in larger_sequences():
            renamed = [(*step[:2], names[step[2]]) if step[0] == "add" else step for step in steps]
            one, other = Effect.of(steps), Effect.of(renamed)
            self.assertEqual((one.symmetry, one.lost), (other.symmetry, other.lost))
            self.assertEqual(other.frame, Frame([(side, names[colour]) for side, colour in one.frame.order()]))
