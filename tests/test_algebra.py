"""[11], [3] (a), (d), (e), (f) and the section pictureframes/algebra.py."""

import random

from pictureframes.algebra import commute, compose, is_idempotent, power, separating_picture, undo
from pictureframes.effects import Effect
from pictureframes.errors import InvalidCount, InvalidEffect, LimitExceeded
from pictureframes.frames import Frame
from pictureframes.pictures import Picture
from pictureframes.running import run
from pictureframes.symmetries import Symmetry
from samples import (
    MIRROR, NO_COUNTS, NO_EFFECTS, SIDES, TURN, RaisingCase, all_lists, all_steps, fresh_picture, some_lines,
    some_steps,
)

KEPT = (0, 0, 0, 0)
HUGE = 10 ** 30 + 7


def adding(side, many, colour=1):
    """Return the effect of adding so many lines at a side."""
    return Effect.of([("add", side, colour)] * many)


def some_effects(seed, many, most_steps=8):
    """Return the effects of so many sequences."""
    chosen = random.Random(seed)
    return [Effect.of(some_steps(chosen, chosen.randrange(most_steps + 1), (1, 2))) for _ in range(many)]


def short_effects(most, colours):
    """Return the unlike effects of all sequences of at most so many steps, each with a shortest one."""
    found = {}
    for steps in all_lists(all_steps(colours), most):
        effect = Effect.of(steps)
        found.setdefault(repr(effect), (effect, steps))
    return list(found.values())


class TestExamples(RaisingCase):

    def test_commute(self):
        result = commute(Effect.of([("add", "top", 1)]), Effect.of([("add", "left", 2)]))
        self.assertEqual(repr(result), "False")

    def test_is_idempotent(self):
        self.assertEqual(repr(is_idempotent(Effect.of([("cut", "top"), ("add", "top", 7)]))), "True")

    def test_undo(self):
        effect = Effect.of([("add", "top", 7), ("turn",)])
        steps = undo(effect)
        result = (len(steps), effect.then(Effect.of(steps)) == Effect.identity())
        self.assertEqual(repr(result), "(4, True)")


class TestCompose(RaisingCase):

    def test_none_and_one(self):
        self.assertEqual(compose(), Effect.identity())
        for effect in some_effects(1, 50):
            self.assertEqual(compose(effect), effect)
        self.assertIs(type(compose()), Effect)

    def test_several(self):
        chosen = random.Random(2)
        for many in (2, 3, 4, 7):
            for _ in range(60):
                parts = [some_steps(chosen, chosen.randrange(6), (1, 2)) for _ in range(many)]
                steps = [step for part in parts for step in part]
                effects = [Effect.of(part) for part in parts]
                self.assertEqual(compose(*effects), Effect.of(steps))
                self.assertEqual(effects, [Effect.of(part) for part in parts])

    def test_first_one_runs_first(self):
        self.assertEqual(compose(adding("top", 1), Effect.of([TURN])).frame, Frame([("right", 1)]))
        self.assertEqual(compose(Effect.of([TURN]), adding("top", 1)).frame, Frame([("top", 1)]))

    def test_refused(self):
        for value in NO_EFFECTS:
            self.assert_raises(InvalidEffect, {"value": value}, compose, value)
            self.assert_raises(InvalidEffect, {"value": value}, compose, Effect.identity(), value, None)
            self.assert_raises(InvalidEffect, {"value": value}, compose, adding("top", 150), adding("top", 150), value)

    def test_limit(self):
        self.assertEqual(len(compose(adding("top", 100), adding("left", 100)).frame), 200)
        self.assert_raises(LimitExceeded, {"count": 201}, compose, adding("top", 100), adding("left", 101))
        # It is the first composition that counts, also where later ones have more or fewer lines.
        effects = [adding("top", 90), adding("left", 90), adding("top", 33), adding("top", 150)]
        self.assert_raises(LimitExceeded, {"count": 213}, compose, *effects)
        cutting = Effect(Symmetry(), (200, 200, 200, 200), Frame([]))
        self.assert_raises(LimitExceeded, {"count": 213}, compose, *effects[:3], cutting)
        self.assertEqual(len(compose(*effects[:2], cutting, effects[3]).frame), 150)


class TestPower(RaisingCase):

    def test_small_exponents(self):
        for effect in some_effects(4, 120):
            result = Effect.identity()
            for exponent in range(9):
                self.assertEqual(power(effect, exponent), result)
                result = compose(result, effect)
        self.assertEqual(power(count=2, effect=adding("top", 1)), adding("top", 2))

    def test_zero_and_one(self):
        for effect in [adding("top", 200), *some_effects(5, 30)]:
            self.assertEqual(power(effect, 0), Effect.identity())
            self.assertEqual(power(effect, 1), effect)

    def test_huge_exponents_of_symmetries(self):
        for symmetry in Symmetry.every():
            effect = Effect(symmetry, KEPT, Frame([]))
            for exponent in (HUGE, HUGE + 1, HUGE + 2, HUGE + 3, 10 ** 99):
                expected = power(effect, exponent % 4)
                self.assertEqual(power(effect, exponent), expected)

    def test_huge_exponents_of_losses(self):
        result = power(Effect(Symmetry(), (1, 2, 3, 0), Frame([])), HUGE)
        self.assertEqual(result.lost, (HUGE, 2 * HUGE, 3 * HUGE, 0))
        self.assertEqual(result.symmetry, Symmetry())
        # Each turn brings the next side to the top: first the top, then left, bottom and right.
        turning = power(Effect.of([("cut", "top"), TURN]), 4 * HUGE + 2)
        self.assertEqual(turning.lost, (HUGE + 1, HUGE, HUGE, HUGE + 1))
        self.assertEqual(turning.symmetry, Symmetry(2))
        mirroring = power(Effect.of([("cut", "left"), MIRROR]), 2 * HUGE + 1)
        self.assertEqual(mirroring.lost, (0, HUGE, 0, HUGE + 1))

    def test_huge_exponents_with_frames(self):
        same = Effect.of([("cut", "top"), ("add", "top", 7)])
        self.assertEqual(power(same, HUGE), same)
        lines = [("top", 1), ("left", 2), ("bottom", 3), ("right", 4)] * 50
        full = Effect(Symmetry(), (50, 50, 50, 50), Frame(lines))
        self.assertEqual(power(full, HUGE), full)
        losing = Effect(Symmetry(), (70, 50, 60, 50), Frame(lines))
        result = power(losing, HUGE)
        self.assertEqual(result.frame, Frame(lines))
        self.assertEqual(result.lost, (50 + 20 * HUGE, 50, 50 + 10 * HUGE, 50))

    def test_huge_exponents_follow_from_smaller_ones(self):
        for effect in some_effects(6, 300):
            if len(power(effect, 16).frame) != len(power(effect, 8).frame):
                continue
            once = power(effect, HUGE)
            self.assertEqual(once.then(effect), power(effect, HUGE + 1))
            self.assertEqual(effect.then(once), power(effect, HUGE + 1))
            self.assertEqual(once.then(once), power(effect, 2 * HUGE))
            self.assertEqual(once.frame, power(effect, 8 + HUGE % 8).frame)

    def test_limit(self):
        self.assertEqual(len(power(adding("top", 1), 200).frame), 200)
        for exponent in (201, 202, 400, 10 ** 30):
            self.assert_raises(LimitExceeded, {"count": 200}, power, adding("top", 1), exponent)
        self.assertEqual(len(power(adding("left", 50), 4).frame), 200)
        self.assert_raises(LimitExceeded, {"count": 200}, power, adding("left", 51), 4)
        self.assert_raises(LimitExceeded, {"count": 200}, power, adding("left", 200), 2)
        growing = Effect.of([("cut", "top"), ("add", "top", 1), ("add", "bottom", 2), MIRROR])
        self.assertEqual(power(growing, 199).frame.widths, (1, 0, 199, 0))
        self.assert_raises(LimitExceeded, {"count": 200}, power, growing, 200)

    def test_refused(self):
        for value in NO_EFFECTS:
            self.assert_raises(InvalidEffect, {"value": value}, power, value, 2)
            self.assert_raises(InvalidEffect, {"value": value}, power, value, -1)
        for value in NO_COUNTS:
            self.assert_raises(InvalidCount, {"value": value}, power, adding("top", 200), value)
        self.assert_raises(InvalidEffect, {"value": 5}, power, count=None, effect=5)


class TestCommute(RaisingCase):

    def test_pairs(self):
        effects = [effect for effect, _ in short_effects(2, (1,))][::2]
        for one in effects:
            for other in effects:
                result = commute(one, other)
                self.assertIs(result, one.then(other) == other.then(one))

    def test_some_that_do(self):
        for one, other in (
            ([("add", "top", 1)], [("add", "bottom", 2)]), ([("add", "top", 1)], [("add", "left", 1)]),
            ([("cut", "top")], [("add", "bottom", 2)]), ([TURN], [TURN, TURN]), ([], [("add", "top", 1), TURN]),
        ):
            self.assertIs(commute(Effect.of(one), Effect.of(other)), True)
            self.assertIs(commute(one=Effect.of(other), other=Effect.of(one)), True)

    def test_some_that_do_not(self):
        for one, other in (
            ([("add", "top", 1)], [("add", "top", 2)]), ([("add", "top", 1)], [("cut", "top")]), ([TURN], [MIRROR]),
            ([TURN], [("add", "top", 1)]), ([("cut", "top")], [MIRROR, TURN]),
        ):
            self.assertIs(commute(Effect.of(one), Effect.of(other)), False)
            self.assertIs(commute(one=Effect.of(other), other=Effect.of(one)), False)

    def test_however_large_the_frames_would_be(self):
        self.assertIs(commute(adding("top", 150), adding("top", 120)), True)
        self.assertIs(commute(adding("top", 150), adding("bottom", 120, 2)), True)
        self.assertIs(commute(adding("top", 150), adding("left", 200)), True)
        self.assertIs(commute(adding("top", 150), adding("left", 200, 2)), False)
        self.assertIs(commute(adding("top", 150), adding("top", 120, 2)), False)
        self.assertIs(commute(adding("top", 200), Effect.of([TURN])), False)
        # They differ in one colour of 400 lines.
        nearly = Effect.of([("add", "top", 1)] * 199 + [("add", "top", 2)])
        self.assertIs(commute(adding("top", 200), nearly), False)
        self.assertIs(commute(nearly, nearly), True)

    def test_refused(self):
        for value in NO_EFFECTS:
            self.assert_raises(InvalidEffect, {"value": value}, commute, value, None)
            self.assert_raises(InvalidEffect, {"value": value}, commute, Effect.identity(), value)
        self.assert_raises(InvalidEffect, {"value": 5}, commute, other=6, one=5)


class TestIdempotent(RaisingCase):

    def test_effects(self):
        found = set()
        for effect, _ in short_effects(3, (1,)):
            result = is_idempotent(effect)
            self.assertIs(result, effect.then(effect) == effect)
            found.add(result)
        self.assertEqual(found, {True, False})

    def test_some(self):
        self.assertIs(is_idempotent(effect=Effect.identity()), True)
        self.assertIs(is_idempotent(Effect.of([TURN])), False)
        self.assertIs(is_idempotent(Effect.of([("cut", "top")])), False)
        self.assertIs(is_idempotent(adding("top", 1)), False)
        replacing = [("cut", "top"), ("cut", "left"), ("add", "left", 1), ("add", "top", 2)]
        self.assertIs(is_idempotent(Effect.of(replacing)), True)
        lines = Frame([("top", 1), ("left", 2)])
        self.assertIs(is_idempotent(Effect(Symmetry(), (1, 0, 0, 1), lines)), True)
        self.assertIs(is_idempotent(Effect(Symmetry(), (1, 0, 0, 0), lines)), False)
        self.assertIs(is_idempotent(Effect(Symmetry(), (1, 0, 0, 2), lines)), False)

    def test_large_frames(self):
        self.assertIs(is_idempotent(Effect(Symmetry(), (200, 0, 0, 0), Frame([("top", 1)] * 200))), True)
        self.assertIs(is_idempotent(Effect(Symmetry(), (199, 0, 0, 0), Frame([("top", 1)] * 200))), False)
        self.assertIs(is_idempotent(adding("top", 200)), False)

    def test_refused(self):
        for value in NO_EFFECTS:
            self.assert_raises(InvalidEffect, {"value": value}, is_idempotent, value)


class TestUndo(RaisingCase):

    def check(self, effect):
        steps = undo(effect)
        if effect.lost != KEPT:
            self.assertIsNone(steps)
            return
        self.assertIs(type(steps), list)
        self.assertEqual(len(steps), len(effect.frame) + len(effect.symmetry.inverse().steps()))
        self.assertEqual(effect.then(Effect.of(steps)), Effect.identity())
        for height, width in ((1, 1), (2, 3)):
            picture = fresh_picture(height, width)
            self.assertEqual(run(effect.apply(picture), steps), picture)

    def test_effects(self):
        for effect, _ in short_effects(3, (1,)):
            self.check(effect)
        for effect in some_effects(9, 200):
            self.check(effect)

    def test_symmetries_and_frames(self):
        chosen = random.Random(10)
        for symmetry in Symmetry.every():
            for many in (0, 1, 5, 30):
                self.check(Effect(symmetry, KEPT, Frame(some_lines(chosen, many))))

    def test_each_loss_counts(self):
        for place in range(4):
            lost = tuple(1 if place == other else 0 for other in range(4))
            self.assertIsNone(undo(effect=Effect(Symmetry(), lost, Frame([("top", 1)]))))

    def test_no_shorter_one_and_none_if_there_is_none(self):
        undoing = short_effects(3, (1,))
        for effect, _ in short_effects(2, (1,)):
            lengths = [
                len(steps) for other, steps in undoing
                if other.symmetry == effect.symmetry.inverse() and effect.then(other) == Effect.identity()
            ]
            if lengths:
                self.assertEqual(len(undo(effect)), min(lengths))
            elif effect.lost == KEPT:
                self.assertGreater(len(undo(effect)), 3)
            else:
                self.assertIsNone(undo(effect))

    def test_more_than_two_hundred_steps(self):
        lines = [(side, colour) for colour in range(50) for side in SIDES]
        for symmetry in Symmetry.every():
            effect = Effect(symmetry, KEPT, Frame(lines))
            steps = undo(effect)
            self.assertEqual(len(steps), 200 + len(symmetry.inverse().steps()))
            picture = run(effect.apply(fresh_picture(2, 3)), steps[:200])
            self.assertEqual(run(picture, steps[200:]), fresh_picture(2, 3))

    def test_list_is_new(self):
        effect = Effect.of([TURN])
        undo(effect).clear()
        self.assertEqual(undo(effect), [TURN] * 3)

    def test_refused(self):
        for value in NO_EFFECTS:
            self.assert_raises(InvalidEffect, {"value": value}, undo, value)


class TestSeparatingPicture(RaisingCase):

    def check(self, one, other):
        picture = separating_picture(one, other)
        if one == other:
            self.assertIsNone(picture)
            return
        self.assertIs(type(picture), Picture)
        self.assertGreaterEqual(picture.height, max(one.smallest[0], other.smallest[0]))
        self.assertGreaterEqual(picture.width, max(one.smallest[1], other.smallest[1]))
        self.assertNotEqual(one.apply(picture), other.apply(picture))

    def test_pairs_of_short_sequences(self):
        effects = [effect for effect, _ in short_effects(2, (0, 1))]
        for one in effects[::2]:
            for other in effects[::3]:
                self.check(one, other)

    def test_equal_effects(self):
        for effect in some_effects(12, 50) + [Effect(Symmetry(), (2000, 0, 0, 10 ** 50), Frame([]))]:
            same = Effect(effect.symmetry, effect.lost, Frame(effect.frame.order()))
            self.assertIsNone(separating_picture(effect, effect))
            self.assertIsNone(separating_picture(other=same, one=effect))

    def test_symmetry_only(self):
        for lost in (KEPT, (1, 2, 0, 3)):
            for lines in ([], [(side, 7) for side in SIDES], [("top", 0)]):
                effects = [Effect(symmetry, lost, Frame(lines)) for symmetry in Symmetry.every()]
                for one in effects:
                    for other in effects:
                        self.check(one, other)

    def test_losses_only(self):
        frame = Frame([("left", 0), ("top", 3)])
        losses = [
            (1, 0, 0, 0), (0, 0, 1, 0), (0, 1, 0, 0), (0, 0, 0, 1), (2, 1, 0, 1), (0, 1, 2, 1), (1, 1, 1, 1), KEPT,
        ]
        for symmetry in Symmetry.every():
            effects = [Effect(symmetry, lost, frame) for lost in losses]
            for one in effects:
                for other in effects:
                    self.check(one, other)

    def test_frame_only(self):
        frames = [
            [], [("top", 0)], [("bottom", 0)], [("top", 1)], [("top", 0), ("top", 0)], [("top", 0), ("top", 1)],
            [("top", 1), ("top", 0)], [("top", 0), ("left", 1)], [("left", 1), ("top", 0)], [("left", 10 ** 99)],
            [("left", place) for place in range(100)], [("left", place) for place in range(1, 101)],
        ]
        for symmetry in (Symmetry(), Symmetry(1), Symmetry(2, True)):
            for lost in (KEPT, (1, 0, 2, 0)):
                effects = [Effect(symmetry, lost, Frame(lines)) for lines in frames]
                for one in effects:
                    for other in effects:
                        self.check(one, other)

    def test_a_frame_that_looks_like_what_was_lost(self):
        cut = Effect.of([("cut", "top"), ("add", "top", 0)])
        for colour in range(40):
            same = Effect.of([("cut", "top"), ("cut", "top"), ("add", "top", colour), ("add", "top", 0)])
            self.check(cut, same)
            self.check(Effect.identity(), Effect.of([("cut", "left"), ("add", "left", colour)]))

    def test_colours_stay_small(self):
        one = Effect.of([("add", "top", 10 ** 100 - 1)])
        picture = separating_picture(one, Effect.identity())
        self.assertLess(max(max(row) for row in picture.rows), 10 ** 100)

    def test_limit(self):
        empty = Frame([])
        self.check(Effect(Symmetry(), (600, 0, 400, 0), empty), Effect(Symmetry(), (400, 0, 600, 0), empty))
        self.check(Effect(Symmetry(), (0, 1, 0, 999), empty), Effect.identity())
        for one, other, count in (
            ((501, 0, 500, 0), KEPT, 1001), (KEPT, (0, 500, 0, 501), 1001), ((0, 0, 0, 1001), (5, 0, 0, 0), 1001),
            ((1001, 1002, 0, 0), (0, 0, 1003, 0), 1003), ((1001, 1002, 0, 10), (0, 0, 1003, 0), 1012),
            ((700, 700, 700, 700), (2000, 1, 0, 1), 2000), ((0, 0, 0, 10 ** 50), KEPT, 10 ** 50),
        ):
            effects = [Effect(Symmetry(), one, empty), Effect(Symmetry(), other, empty)]
            self.assert_raises(LimitExceeded, {"count": count}, separating_picture, *effects)
            self.assert_raises(LimitExceeded, {"count": count}, separating_picture, *effects[::-1])

    def test_refused(self):
        for value in NO_EFFECTS:
            self.assert_raises(InvalidEffect, {"value": value}, separating_picture, value, None)
            self.assert_raises(InvalidEffect, {"value": value}, separating_picture, Effect.identity(), value)
        far = Effect(Symmetry(), (2000, 0, 0, 0), Frame([]))
        self.assert_raises(InvalidEffect, {"value": 5}, separating_picture, far, 5)
