"""[9], [3] (c), (i) and the section pictureframes/shortening.py."""

import random

from pictureframes.effects import Effect
from pictureframes.errors import InvalidEffect, LimitExceeded
from pictureframes.frames import Frame
from pictureframes.pictures import Picture
from pictureframes.running import run
from pictureframes.shortening import hidden_pairs, shortest, shortest_length
from pictureframes.symmetries import Symmetry
from samples import (
    MIRROR, NO_EFFECTS, SIDES, TURN, RaisingCase, all_lists, all_steps, fresh_picture, some_lines, some_steps,
)

KEPT = (0, 0, 0, 0)


def effect_of(steps):
    """Return the effect of a list of however many steps."""
    result = Effect.identity()
    for step in steps:
        result = result.then(Effect.of([step]))
    return result


def expected_steps(effect):
    """Return the steps in the order that the document names."""
    cuts = []
    for side, many in zip(SIDES, effect.lost):
        cuts.extend([("cut", side)] * many)
    return cuts + effect.symmetry.steps() + [("add", *line) for line in effect.frame.order()]


def marked_pairs(steps):
    """Return the hidden pairs as pictures show them: each added line has the index of its step as its colour."""
    marked = [("add", step[1], 1000 + index) if step[0] == "add" else step for index, step in enumerate(steps)]
    picture = Picture([[0] * 101] * 101)
    pairs = []
    for index, step in enumerate(marked):
        if step[0] == "cut":
            line = picture.line(step[1])
            # The cells in the middle cross no added lines.
            colour = line[len(line) // 2]
            if colour != 0:
                pairs.append((colour - 1000, index))
        picture = run(picture, [step])
    return sorted(pairs)


class TestExamples(RaisingCase):

    def test_shortest(self):
        result = shortest(Effect.of([("add", "top", 7), ("add", "top", 8), ("cut", "top")]))
        self.assertEqual(repr(result), "[('add', 'top', 7)]")

    def test_hidden_pairs(self):
        self.assertEqual(repr(hidden_pairs([("add", "top", 7), ("turn",), ("cut", "right")])), "[(0, 2)]")


class TestShortest(RaisingCase):

    def test_against_all_short_sequences(self):
        for colours in ((1,), (1, 2)):
            least = {}
            # The shorter sequences come first.
            for steps in all_lists(all_steps(colours), 3):
                effect = Effect.of(steps)
                least.setdefault(repr(effect), (effect, len(steps)))
            for effect, length in least.values():
                self.assertEqual(shortest_length(effect), length)
                steps = shortest(effect)
                self.assertEqual(len(steps), length)
                self.assertEqual(Effect.of(steps), effect)

    def test_order_of_the_steps(self):
        chosen = random.Random(1)
        for symmetry in Symmetry.every():
            for many in (0, 1, 3, 6, 20):
                lost = tuple(chosen.randrange(4) for _ in SIDES)
                effect = Effect(symmetry, lost, Frame(some_lines(chosen, many, (1, 2, 3))))
                steps = shortest(effect)
                self.assertIs(type(steps), list)
                self.assertEqual(steps, expected_steps(effect))
                self.assertEqual(len(steps), shortest_length(effect))
                self.assertEqual(effect_of(steps), effect)

    def test_one_by_hand(self):
        effect = Effect(Symmetry(3, True), (1, 2, 0, 1), Frame([("left", 7), ("top", 7), ("right", 8)]))
        self.assertEqual(shortest(effect), [
            ("cut", "top"), ("cut", "right"), ("cut", "right"), ("cut", "left"), TURN, MIRROR,
            ("add", "top", 7), ("add", "right", 8), ("add", "left", 7),
        ])
        self.assertEqual(shortest_length(effect), 9)

    def test_identity_and_symmetries(self):
        self.assertEqual(shortest(Effect.identity()), [])
        self.assertEqual(shortest_length(Effect.identity()), 0)
        for symmetry in Symmetry.every():
            effect = Effect(symmetry, KEPT, Frame([]))
            self.assertEqual(shortest(effect), symmetry.steps())
            self.assertEqual(shortest_length(effect), len(symmetry.steps()))

    def test_on_the_smallest_pictures(self):
        chosen = random.Random(2)
        for _ in range(200):
            effect = Effect.of(some_steps(chosen, chosen.randrange(15), (1, 2)))
            picture = fresh_picture(*effect.smallest)
            self.assertEqual(run(picture, shortest(effect)), effect.apply(picture))

    def test_more_steps_than_a_sequence_may_have(self):
        frame = Frame([("top", 1), ("left", 2)] * 100)
        effect = Effect(Symmetry(2), (100, 0, 50, 7), frame)
        self.assertEqual(len(shortest(effect)), 359)
        self.assertEqual(shortest_length(effect), 359)
        self.assertEqual(shortest(effect), expected_steps(effect))

    def test_limit(self):
        # One step of the symmetry and two lines beside the cuts.
        frame = Frame([("top", 1), ("left", 2)])
        most = Effect(Symmetry(1), (9000, 0, 997, 0), frame)
        self.assertEqual(shortest_length(most), 10000)
        self.assertEqual(shortest(most), expected_steps(most))
        for lost, count in (((9000, 0, 998, 0), 10001), ((0, 20000, 0, 0), 20003), ((0, 0, 0, 10 ** 99), 10 ** 99 + 3)):
            more = Effect(Symmetry(1), lost, frame)
            self.assert_raises(LimitExceeded, {"count": count}, shortest, more)
            self.assertEqual(shortest_length(more), count)
        self.assertEqual(len(shortest(Effect(Symmetry(), (0, 10000, 0, 0), Frame([])))), 10000)
        for symmetry, lost in ((Symmetry(), (0, 0, 10001, 0)), (Symmetry(0, True), (10000, 0, 0, 0))):
            self.assert_raises(LimitExceeded, {"count": 10001}, shortest, Effect(symmetry, lost, Frame([])))

    def test_refused(self):
        for value in NO_EFFECTS:
            self.assert_raises(InvalidEffect, {"value": value}, shortest, value)
            self.assert_raises(InvalidEffect, {"value": value}, shortest_length, value)

    def test_returned_lists_are_new(self):
        effect = Effect.of([("cut", "top"), TURN, ("add", "left", 7)])
        steps = shortest(effect=effect)
        steps.clear()
        self.assertEqual(shortest(effect), [("cut", "top"), TURN, ("add", "left", 7)])
        self.assertEqual(shortest_length(effect=effect), 3)

    def test_renamed_colours(self):
        chosen = random.Random(3)
        names = {1: 2, 2: 3, 3: 1}
        for _ in range(50):
            steps = some_steps(chosen, 12)
            renamed = [("add", step[1], names[step[2]]) if step[0] == "add" else step for step in steps]
            self.assertEqual(shortest_length(Effect.of(renamed)), shortest_length(Effect.of(steps)))


class TestHiddenPairs(RaisingCase):

    def test_none(self):
        for steps in ([], (), [TURN], [("cut", "top")] * 3, [("add", "top", 1), ("cut", "bottom"), ("cut", "left")]):
            self.assertEqual(hidden_pairs(steps), [])
            self.assertIs(type(hidden_pairs(steps)), list)

    def test_several_at_one_side(self):
        adding = [("add", "top", 1), ("add", "top", 2), ("add", "top", 1)]
        self.assertEqual(hidden_pairs(adding + [("cut", "top")]), [(2, 3)])
        self.assertEqual(hidden_pairs(adding + [("cut", "top")] * 3), [(0, 5), (1, 4), (2, 3)])
        self.assertEqual(hidden_pairs(adding + [("cut", "top")] * 9), [(0, 5), (1, 4), (2, 3)])
        again = [("add", "top", 1), ("cut", "top")] * 3
        self.assertEqual(hidden_pairs(tuple(again)), [(0, 1), (2, 3), (4, 5)])
        self.assertEqual(hidden_pairs([("cut", "left"), *again]), [(1, 2), (3, 4), (5, 6)])

    def test_turns_and_mirrorings_in_between(self):
        self.assertEqual(hidden_pairs([("add", "left", 1), MIRROR, ("cut", "right")]), [(0, 2)])
        self.assertEqual(hidden_pairs([("add", "left", 1), MIRROR, ("cut", "left")]), [])
        self.assertEqual(hidden_pairs([("add", "top", 1), MIRROR, ("cut", "top")]), [(0, 2)])
        self.assertEqual(hidden_pairs([("add", "top", 1), TURN, MIRROR, ("cut", "left")]), [(0, 3)])
        self.assertEqual(hidden_pairs([("add", "top", 1), TURN, TURN, TURN, ("cut", "left")]), [(0, 4)])
        steps = [TURN, ("add", "right", 1), ("add", "top", 2), TURN, ("cut", "right"), MIRROR, ("cut", "bottom")]
        self.assertEqual(hidden_pairs(steps), [(1, 6), (2, 4)])

    def test_ascending_by_the_added_lines(self):
        steps = [("add", "top", 1), ("add", "left", 2), ("cut", "left"), ("cut", "top")]
        self.assertEqual(hidden_pairs(steps), [(0, 3), (1, 2)])

    def test_covered_lines_are_cut_off_too(self):
        steps = [("add", "top", 1), ("add", "left", 2), ("add", "right", 2), ("cut", "top")]
        self.assertEqual(hidden_pairs(steps), [(0, 3)])

    def test_against_pictures(self):
        chosen = random.Random(4)
        for many in (3, 6, 10, 20, 40):
            for _ in range(6):
                steps = some_steps(chosen, many)
                self.assertEqual(hidden_pairs(steps), marked_pairs(steps))

    def test_effect_without_these_steps(self):
        chosen = random.Random(5)
        for many in (2, 4, 6, 10, 30, 100, 200):
            for _ in range(40):
                steps = some_steps(chosen, many, (1, 2))
                pairs = hidden_pairs(steps)
                self.assertEqual(pairs, sorted(pairs))
                hidden = [index for pair in pairs for index in pair]
                self.assertEqual(len(set(hidden)), len(hidden))
                for earlier, later in pairs:
                    self.assertLess(earlier, later)
                    self.assertEqual((steps[earlier][0], steps[later][0]), ("add", "cut"))
                left = [step for index, step in enumerate(steps) if index not in hidden]
                self.assertEqual(Effect.of(left), Effect.of(steps))
                self.assertEqual(hidden_pairs(left), [])

    def test_refused(self):
        self.assert_refuses_steps(hidden_pairs)

    def test_arguments(self):
        steps = [("add", "top", 7), ("cut", "top")]
        pairs = hidden_pairs(steps=steps)
        self.assertEqual(pairs, [(0, 1)])
        self.assertIs(type(pairs[0]), tuple)
        pairs.clear()
        self.assertEqual(hidden_pairs(steps), [(0, 1)])
        self.assertEqual(steps, [("add", "top", 7), ("cut", "top")])
