"""[10], [3] (b) and the section pictureframes/sizes.py."""

import random

from pictureframes.effects import Effect
from pictureframes.errors import InvalidCount, InvalidSequence, LastLine, LimitExceeded
from pictureframes.pictures import Picture
from pictureframes.running import run
from pictureframes.sizes import act_alike, differing_picture, outcome, running_size
from pictureframes.symmetries import Symmetry
from samples import (
    FRESH, MIRROR, NO_LENGTHS, SIDES, TURN, RaisingCase, all_lists, all_steps, fresh_picture, some_steps,
)

# Both add a line of colour 1 at the top and one of colour 2 at the bottom, where two lines are lost, and both run on
# every size. Of a picture with one row, the first one's line at the top is cut off, and the other one's at the bottom.
KEEPS_BOTTOM = [
    ("add", "top", 1), ("add", "top", 9), ("cut", "bottom"), ("cut", "bottom"), ("add", "bottom", 2), ("cut", "top"),
]
KEEPS_TOP = [
    ("add", "top", 9), ("add", "top", 8), ("cut", "bottom"), ("cut", "bottom"), ("add", "bottom", 2),
    ("add", "bottom", 3), ("cut", "top"), ("cut", "top"), ("add", "top", 1), ("cut", "bottom"),
]


def renamed(steps, names):
    """Return the steps with other colours."""
    return [(*step[:2], names[step[2]]) if step[0] == "add" else step for step in steps]


def sides_moved(steps, symmetry):
    """Return the steps, which cut and add only, with their sides moved."""
    return [(step[0], symmetry.side(step[1]), *step[2:]) for step in steps]


def some_sequences(seed):
    """Return sequences that use up small pictures often."""
    chosen = random.Random(seed)
    words = ("turn", "mirror", "cut", "cut", "cut", "add", "add", "add", "add")
    return [some_steps(chosen, many, (1, 2, 3), words) for many in (4, 6, 8, 10, 14, 20, 40) for _ in range(30)]


def result_on(steps, height, width):
    """Return the index of the step that fails, or the picture that results, or None if some of the original is left."""
    try:
        result = run(fresh_picture(height, width), steps)
    except LastLine as error:
        return error.index
    if any(colour >= FRESH for row in result.rows for colour in row):
        return None
    return result


def behaviour(steps, most):
    """Return what a sequence does to the pictures of all sizes up to this one, as a value with a hash."""
    found = []
    for height in range(1, most + 1):
        for width in range(1, most + 1):
            try:
                found.append(run(fresh_picture(height, width), steps).rows)
            except LastLine:
                found.append(None)
    return tuple(found)


def rows_or_none(picture, steps):
    """Return the rows after a sequence, or None if it fails."""
    try:
        return run(picture, steps).rows
    except LastLine:
        return None


class TestExamples(RaisingCase):

    def test_outcome(self):
        result = outcome([("add", "top", 7), ("cut", "bottom")], 1, 3).rows
        self.assertEqual(repr(result), "((7, 7, 7),)")

    def test_act_alike(self):
        result = act_alike([("cut", "top"), ("add", "bottom", 7)], [("add", "bottom", 7), ("cut", "top")])
        self.assertEqual(repr(result), "False")

    def test_running_size(self):
        result = running_size([("add", "top", 7), ("cut", "bottom"), ("cut", "left")])
        self.assertEqual(repr(result), "(1, 2)")


class TestOutcome(RaisingCase):

    def check(self, steps, height, width):
        expected = result_on(steps, height, width)
        if isinstance(expected, int):
            self.assert_raises(LastLine, {"index": expected}, outcome, steps, height, width)
            return
        result = outcome(steps, height, width)
        self.assertEqual(result, expected)
        if expected is not None:
            self.assertIs(type(result), Picture)
            self.assertEqual(run(Picture.filled(height, width, 5), steps), result)

    def test_all_short_sequences(self):
        for steps in all_lists(all_steps((1,)), 3):
            for height in (1, 2, 3):
                for width in (1, 2, 3):
                    self.check(steps, height, width)

    def test_longer_sequences(self):
        for steps in some_sequences(1):
            running, smallest = running_size(steps), Effect.of(steps).smallest
            heights = {1, running[0] - 1, *range(running[0], smallest[0] + 2)} - {0}
            widths = {1, running[1] - 1, *range(running[1], smallest[1] + 2)} - {0}
            for height in sorted(heights):
                for width in sorted(widths):
                    self.check(steps, height, width)
                    large = height >= smallest[0] and width >= smallest[1]
                    runs = height >= running[0] and width >= running[1]
                    if runs:
                        self.assertIs(outcome(steps, height, width) is None, large)

    def test_two_hundred_steps(self):
        chosen = random.Random(2)
        for _ in range(5):
            steps = some_steps(chosen, 200, words=("turn", "mirror", "cut", "cut", "add", "add"))
            running, smallest = running_size(steps), Effect.of(steps).smallest
            for height in {running[0], smallest[0] - 1, smallest[0]} - {0}:
                for width in {running[1], smallest[1] - 1, smallest[1]} - {0}:
                    self.check(steps, height, width)

    def test_only_rows_or_only_columns_are_gone(self):
        steps = [("add", "top", 7), ("cut", "bottom")]
        for turn, expected in (([], ((7, 7),)), ([TURN], ((7,), (7,)))):
            self.assertEqual(outcome(steps + turn, 1, 2).rows, expected)
            self.assertIsNone(outcome(steps + turn, 2, 1))
        steps = [("add", "left", 7), ("cut", "right"), ("add", "top", 8)]
        self.assertEqual(outcome(height=2, width=1, steps=tuple(steps)).rows, ((8,), (7,), (7,)))
        self.assertIsNone(outcome(steps, 1, 2))

    def test_inner_lines_are_cut_from_the_other_side(self):
        steps = [("add", "top", 1), ("add", "top", 2), ("add", "top", 3), ("cut", "bottom"), ("cut", "bottom")]
        self.assertEqual(outcome(steps, 1, 1).rows, ((3,), (2,)))
        self.assertEqual(outcome(steps, 1, 2).rows, ((3, 3), (2, 2)))
        steps = [("add", "right", 1), ("add", "right", 2), ("add", "right", 3), ("cut", "left"), ("cut", "left")]
        self.assertEqual(outcome(steps, 1, 1).rows, ((2, 3),))

    def test_one_row_is_left_of_different_lines(self):
        self.assertEqual(outcome(KEEPS_BOTTOM, 1, 2).rows, ((2, 2),))
        self.assertEqual(outcome(KEEPS_TOP, 1, 2).rows, ((1, 1),))

    def test_huge_sizes(self):
        many = 10 ** 99
        self.assertIsNone(outcome([], many, many))
        self.assertIsNone(outcome([("cut", "top"), TURN, ("add", "top", 1)], many, many))
        steps = [("add", "top", 7), ("cut", "bottom"), TURN]
        self.assertIsNone(outcome(steps, many, 1))
        self.assert_raises(LimitExceeded, {"count": many}, outcome, steps, 1, many)
        self.assert_raises(LimitExceeded, {"count": many + 1}, outcome, steps + [("add", "top", 1)], 1, many)
        self.assert_raises(LastLine, {"index": 3}, outcome, steps + [("cut", "left")], 1, many)

    def test_limit(self):
        rows_gone = [("add", "top", 7), ("cut", "bottom")]
        columns_gone = [("add", "left", 7), ("cut", "right")]
        for turn in ([], [TURN]):
            self.assertIsNotNone(outcome(rows_gone + turn, 1, 1000))
            self.assert_raises(LimitExceeded, {"count": 1001}, outcome, rows_gone + turn, 1, 1001)
            self.assertIsNotNone(outcome(columns_gone + turn, 1000, 1))
            self.assert_raises(LimitExceeded, {"count": 1001}, outcome, columns_gone + turn, 1001, 1)
        more = [("add", "right", 1)] * 10
        self.assertEqual(outcome(rows_gone + more, 1, 990).width, 1000)
        self.assert_raises(LimitExceeded, {"count": 1001}, outcome, rows_gone + more, 1, 991)
        fewer = [("cut", "right")] * 10
        self.assertEqual(outcome(rows_gone + fewer, 1, 1010).width, 1000)
        self.assert_raises(LimitExceeded, {"count": 1001}, outcome, rows_gone + fewer, 1, 1011)
        # Both are too many; the greater number counts.
        both = [("add", "top", 7)] * 30 + [("cut", "bottom")] * 29 + [("add", "left", 7)] * 30 + [("cut", "right")] * 29
        self.assertIsNone(outcome(both, 2000, 3000))
        self.assert_raises(LimitExceeded, {"count": 2001}, outcome, both, 2000, 5)
        self.assert_raises(LimitExceeded, {"count": 3001}, outcome, both, 29, 3000)

    def test_a_failing_step_comes_before_the_limit(self):
        steps = [("add", "top", 7), ("cut", "bottom"), ("cut", "top")]
        self.assert_raises(LastLine, {"index": 2}, outcome, steps, 1, 1001)

    def test_first_failing_step(self):
        for steps in ([("cut", "left"), ("cut", "top")], [TURN, ("cut", "top"), ("cut", "left")]):
            index = len(steps) - 2
            self.assert_raises(LastLine, {"index": index}, outcome, steps, 1, 1)
        self.assert_raises(LastLine, {"index": 0}, outcome, [("cut", "top"), ("cut", "left")], 1, 5)
        self.assert_raises(LastLine, {"index": 1}, outcome, [("cut", "top"), ("cut", "left")], 5, 1)
        self.assert_raises(LastLine, {"index": 199}, outcome, [("cut", "top")] * 200, 200, 1)

    def test_refused(self):
        self.assert_refuses_steps(lambda steps: outcome(steps, 3, 3))
        for value in NO_LENGTHS:
            self.assert_raises(InvalidCount, {"value": value}, outcome, [TURN], value, 3)
            self.assert_raises(InvalidCount, {"value": value}, outcome, [TURN], 3, value)

    def test_order_of_errors(self):
        self.assert_raises(InvalidSequence, {"index": 0}, outcome, [5], 0, None)
        self.assert_raises(InvalidSequence, {"index": 0}, outcome, width=None, height=0, steps=[5])
        self.assert_raises(InvalidCount, {"value": 0}, outcome, [("cut", "top")] * 9, 0, None)
        self.assert_raises(InvalidCount, {"value": None}, outcome, [("cut", "top")] * 9, 1, None)

    def test_argument_stays(self):
        steps = [("add", "top", 7), TURN, ("cut", "left")]
        outcome(steps, 1, 1)
        self.assertEqual(steps, [("add", "top", 7), TURN, ("cut", "left")])


class TestRunningSize(RaisingCase):

    def check(self, steps):
        height, width = running_size(steps)
        self.assertIs(type(running_size(steps)), tuple)
        for rows in {1, height - 1, height, height + 1} - {0}:
            for columns in {1, width - 1, width, width + 1} - {0}:
                fails = rows_or_none(fresh_picture(rows, columns), steps) is None
                self.assertIs(fails, rows < height or columns < width)

    def test_all_short_sequences(self):
        for steps in all_lists(all_steps((1,)), 3):
            self.check(steps)

    def test_longer_sequences(self):
        for steps in some_sequences(3):
            self.check(steps)

    def test_rows_columns_both_and_neither(self):
        top, left = ("cut", "top"), ("cut", "left")
        for steps, expected in (
            ([], (1, 1)), ([TURN], (1, 1)), ([("add", "top", 1)], (1, 1)), ([("add", "top", 1), top], (1, 1)),
            ([top], (2, 1)), ([("cut", "bottom"), top], (3, 1)), ([left], (1, 2)), ([left, ("cut", "right")], (1, 3)),
            ([top, left], (2, 2)), ([top, TURN, top], (2, 2)), ([top, TURN, TURN, top], (3, 1)),
            ([TURN, top], (1, 2)), ([TURN, top, MIRROR, left], (2, 2)), ([TURN, ("add", "top", 1), TURN, left], (1, 1)),
            ([TURN, ("add", "top", 1), TURN, top], (2, 1)), ([TURN, ("add", "top", 1), MIRROR, top], (1, 1)),
            ([top, ("add", "top", 1)], (2, 1)), ([("add", "left", 1), top], (2, 1)),
            # The first two cuts need three rows; what is added later helps the third one.
            ([top, top, ("add", "top", 1), ("add", "top", 1), top], (3, 1)),
        ):
            self.assertEqual(running_size(steps), expected)
            self.assertEqual(running_size(steps=tuple(steps)), expected)

    def test_two_hundred_steps(self):
        self.assertEqual(running_size([("cut", "top")] * 200), (201, 1))
        self.assertEqual(running_size([("cut", "right")] * 100 + [("cut", "bottom")] * 100), (101, 101))
        self.assertEqual(running_size([("cut", "top"), TURN] * 100), (51, 51))
        self.assertEqual(running_size([("add", "top", 1)] * 100 + [("cut", "bottom")] * 100), (1, 1))
        self.assertEqual(running_size([("cut", "bottom")] * 100 + [("add", "top", 1)] * 100), (101, 1))
        self.assertEqual(running_size([MIRROR] * 200), (1, 1))
        chosen = random.Random(4)
        for _ in range(5):
            self.check(some_steps(chosen, 200, words=("turn", "cut", "cut", "add")))

    def test_refused(self):
        self.assert_refuses_steps(running_size)


class TestActingAlike(RaisingCase):

    def check(self, one, other, alike):
        self.assertIs(act_alike(one, other), alike)
        picture = differing_picture(one, other)
        if alike:
            self.assertIsNone(picture)
        else:
            self.assertIs(type(picture), Picture)
            self.assertNotEqual(rows_or_none(picture, one), rows_or_none(picture, other))

    def test_all_pairs_of_short_sequences(self):
        sequences = all_lists(all_steps((1,)), 2)
        found = [behaviour(steps, 5) for steps in sequences]
        for one, one_found in zip(sequences, found):
            for other, other_found in zip(sequences, found):
                self.check(one, other, one_found == other_found)

    def test_three_steps(self):
        chosen = random.Random(5)
        sequences = all_lists(all_steps((1, 2)), 3)
        first = {}
        for steps in sequences[::2]:
            found = behaviour(steps, 5)
            self.check(first.setdefault(found, steps), steps, True)
            other = chosen.choice(sequences)
            self.check(steps, other, behaviour(other, 5) == found)

    def test_longer_sequences(self):
        # One step is moved, or two are added that change large pictures seldom.
        chosen = random.Random(6)
        found = {True: 0, False: 0}
        for steps in some_sequences(7):
            if len(steps) > 10:
                continue
            for _ in range(8):
                other = list(steps)
                place = chosen.randrange(len(steps))
                if chosen.random() < 0.5:
                    other.insert(chosen.randrange(len(steps)), other.pop(place))
                else:
                    side = chosen.choice(SIDES)
                    other[place:place] = [("add", side, 1), ("cut", side)]
                most = max(Effect.of(steps).smallest + Effect.of(other).smallest) + 1
                alike = behaviour(steps, most) == behaviour(other, most)
                found[alike] += 1
                self.check(steps, other, alike)
        self.assertGreater(min(found.values()), 100)

    def test_equal_sequences(self):
        for steps in some_sequences(8):
            self.check(steps, tuple(steps), True)
            self.check(steps, [TURN] * 3 + [MIRROR, MIRROR, TURN] + steps, True)

    def test_only_which_sizes_fail(self):
        for one, other in (
            ([("cut", "top"), ("add", "bottom", 7)], [("add", "bottom", 7), ("cut", "top")]),
            ([("cut", "left"), ("add", "right", 7)] * 2, [("add", "right", 7)] * 2 + [("cut", "left")] * 2),
            ([TURN, ("cut", "top"), ("add", "bottom", 7)], [("add", "right", 7), ("cut", "left"), TURN]),
            ([("cut", "left"), ("cut", "top"), ("add", "right", 1)],
             [("add", "right", 1), ("cut", "top"), ("cut", "left")]),
        ):
            self.assertEqual(Effect.of(one), Effect.of(other))
            self.assertNotEqual(running_size(one), running_size(other))
            self.check(one, other, False)
            self.check(other, one, False)
        # Each of them fails on a size on which the other does not.
        one = [("cut", "top"), ("add", "bottom", 7), ("add", "right", 8), ("cut", "left")]
        other = [("add", "bottom", 7), ("cut", "top"), ("cut", "left"), ("add", "right", 8)]
        self.assertEqual(Effect.of(one), Effect.of(other))
        self.assertEqual((running_size(one), running_size(other)), ((2, 1), (1, 2)))
        self.check(one, other, False)
        self.check(other, one, False)

    def test_only_on_small_pictures(self):
        for symmetry in Symmetry.every():
            one, other = sides_moved(KEEPS_BOTTOM, symmetry), sides_moved(KEEPS_TOP, symmetry)
            self.assertEqual(Effect.of(one), Effect.of(other))
            self.assertEqual((running_size(one), running_size(other)), ((1, 1), (1, 1)))
            for before in ([], [TURN], [MIRROR], [("cut", "top")] * 2, [("cut", "left")] * 3):
                self.check(before + one, before + other, False)
                self.check(before + other, before + one, False)
            for after in ([TURN], [MIRROR], [("add", "top", 4)], [("add", "right", 5)]):
                self.check(one + after, other + after, False)

    def test_small_pictures_of_one_colour(self):
        names = {1: 1, 2: 1, 3: 3, 8: 8, 9: 9}
        self.check(renamed(KEEPS_BOTTOM, names), renamed(KEEPS_TOP, names), True)

    def test_two_hundred_steps(self):
        rows = [("add", "top", 1)] * 50 + [("cut", "bottom")] * 50
        columns = [("add", "left", 1)] * 50 + [("cut", "right")] * 50
        self.check(rows + columns, columns + rows, True)
        self.check(rows + columns, columns + rows[1:] + rows[:1], False)
        self.check([("cut", "top")] * 200, [("cut", "top")] * 199 + [("cut", "bottom")], False)
        self.check([("cut", "top")] * 200, [("cut", "top")] * 199, False)

    def test_arguments_stay(self):
        one, other = list(KEEPS_BOTTOM), list(KEEPS_TOP)
        differing_picture(one_steps=one, other_steps=other)
        act_alike(other_steps=other, one_steps=one)
        self.assertEqual((one, other), (KEEPS_BOTTOM, KEEPS_TOP))

    def test_refused(self):
        for call in (act_alike, differing_picture):
            self.assert_refuses_steps(lambda steps: call(steps, [TURN]))
            self.assert_refuses_steps(lambda steps: call([TURN], steps))
            self.assert_raises(InvalidSequence, {"index": 1}, call, [TURN, 5], None)
            self.assert_raises(InvalidSequence, {"index": 1}, call, other_steps=None, one_steps=[TURN, 5])
