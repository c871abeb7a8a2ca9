"""[11], [7], [3] (d), (i) and the section pictureframes/powers.py."""

import random

from pictureframes.algebra import power
from pictureframes.effects import Effect
from pictureframes.errors import InvalidCount, InvalidEffect, OutOfRange
from pictureframes.frames import Frame
from pictureframes.pictures import Picture
from pictureframes.powers import power_colour, power_summary
from pictureframes.symmetries import Symmetry
from samples import MIRROR, NO_COUNTS, NO_EFFECTS, SIDES, TURN, RaisingCase, fresh_picture, some_lines, some_steps

HUGE = 10 ** 30
NO_NUMBERS = (True, False, None, "0", "", b"", (), [0], {}, object(), int)
# Lines of each side that are added and, in the next copy, partly or wholly cut off again.
GROWING = [("add", "top", 1), ("add", "left", 2), ("add", "bottom", 3), ("add", "right", 4)]
ALIKE = [("add", "top", 1), ("add", "left", 1), ("add", "bottom", 1), ("add", "right", 2), ("add", "top", 1)]


def places_of(widths):
    """Return all places of a frame with these widths."""
    top, right, bottom, left = widths
    rows = range(-top, bottom + 1)
    columns = range(-left, right + 1)
    return [(row, column) for row in rows for column in columns if (row, column) != (0, 0)]


def places_beyond(widths):
    """Return places that are just outside of a frame with these widths."""
    top, right, bottom, left = widths
    beyond = [(-top - 1, 0), (bottom + 1, 0), (0, -left - 1), (0, right + 1)]
    beyond.extend([(-top - 1, -left - 1), (bottom + 1, right + 1), (-top - 1, right + 1), (bottom + 1, -left - 1)])
    beyond.extend([(-top, right + 1), (bottom, -left - 1), (bottom + 1, right), (-top - 1, -left)])
    return beyond


def chosen_effects(seed, many):
    """Return effects of sequences that grow, stay and lose lines, with few colours and with more."""
    chosen = random.Random(seed)
    words = (("turn", "mirror", "cut", "add", "add"), ("cut", "add", "add"), ("turn", "cut", "cut", "add", "add"))
    colours = ((1,), (1, 2), (1, 2, 3))
    return [
        Effect.of(some_steps(chosen, chosen.randrange(13), chosen.choice(colours), chosen.choice(words)))
        for _ in range(many)
    ]


def effects_with_each_symmetry():
    """Return effects with all eight symmetries: growing, staying and losing at several sides at once."""
    chosen = random.Random(7)
    found = []
    for symmetry in Symmetry.every():
        for lost in ((0, 0, 0, 0), (1, 1, 1, 1), (2, 0, 1, 0), (0, 3, 0, 0), (5, 1, 0, 2)):
            for colours in ((1,), (1, 2), (1, 2, 3, 4)):
                found.append(Effect(symmetry, lost, Frame(some_lines(chosen, chosen.randrange(3, 8), colours))))
    return found


class TestExamples(RaisingCase):

    def setUp(self):
        self.effect = Effect.of([("cut", "top"), ("add", "top", 7), ("add", "top", 8)])

    def test_power_summary(self):
        result = power_summary(self.effect, 10 ** 30)[1:]
        self.assertEqual(repr(result), "((1, 0, 0, 0), (1000000000000000000000000000001, 0, 0, 0))")

    def test_power_colour(self):
        result = [power_colour(self.effect, 10 ** 30, row, 0) for row in (-1, -10 ** 30, -10 ** 30 - 1)]
        self.assertEqual(repr(result), "[7, 7, 8]")


class TestSmallExponents(RaisingCase):

    def check(self, effect, exponent, result):
        """Compare a power with an effect, at every place of its frame and just beyond."""
        symmetry, lost, widths = power_summary(effect, exponent)
        self.assertEqual((symmetry, lost, widths), (result.symmetry, result.lost, result.frame.widths))
        for row, column in places_of(widths):
            self.assertEqual(power_colour(effect, exponent, row, column), result.frame.colour(row, column))
        for row, column in [(0, 0), *places_beyond(widths)]:
            self.assert_raises(OutOfRange, {"value": (row, column)}, power_colour, effect, exponent, row, column)

    def test_against_the_power(self):
        for effect in chosen_effects(1, 40) + effects_with_each_symmetry():
            for exponent in (0, 1, 2, 3, 4, 6, 9):
                self.check(effect, exponent, power(effect, exponent))

    def test_against_the_repeated_sequence(self):
        chosen = random.Random(2)
        for _ in range(80):
            steps = some_steps(chosen, chosen.randrange(1, 10), (1, 2))
            for exponent in (0, 1, 2, 3, 4, 5, 8, 9):
                self.check(Effect.of(steps), exponent, Effect.of(steps * exponent))

    def test_against_pictures(self):
        chosen = random.Random(3)
        for _ in range(60):
            effect = Effect.of(some_steps(chosen, chosen.randrange(1, 9), (1, 2)))
            for exponent in (1, 2, 5, 7):
                symmetry, lost, widths = power_summary(effect, exponent)
                core = fresh_picture(lost[0] + lost[2] + 1, lost[1] + lost[3] + 1)
                result = core
                for _ in range(exponent):
                    result = effect.apply(result)
                top, right, bottom, left = widths
                self.assertEqual((result.height, result.width), (top + bottom + 1, left + right + 1))
                self.assertEqual(result[top, left], core[lost[0], lost[3]])
                for row, column in places_of(widths):
                    colour = power_colour(effect, exponent, row, column)
                    self.assertEqual(colour, result[top + row, left + column])

    def test_kinds_of_values(self):
        for exponent in (0, 1, 2, 4, HUGE):
            summary = power_summary(Effect.of([("cut", "top"), ("add", "left", 7), TURN]), exponent)
            self.assertIs(type(summary), tuple)
            symmetry, lost, widths = summary
            self.assertIs(type(symmetry), Symmetry)
            for counts in (lost, widths):
                self.assertIs(type(counts), tuple)
                self.assertEqual([type(many) for many in counts], [int] * 4)

    def test_exponent_zero(self):
        for effect in chosen_effects(4, 30):
            self.assertEqual(power_summary(effect, 0), (Symmetry(), (0, 0, 0, 0), (0, 0, 0, 0)))
            for place in ((0, 1), (-1, 0), (1, 1), (0, 0)):
                self.assert_raises(OutOfRange, {"value": place}, power_colour, effect, 0, *place)

    def test_frames_with_more_lines_than_a_list_may_have(self):
        effect = Effect.of(GROWING * 50)
        self.assertEqual(power_summary(effect, 7)[2], (350, 350, 350, 350))
        self.assertEqual(power_colour(effect, 7, -350, -350), 2)
        long = Effect(Symmetry(1), (0, 0, 0, 0), Frame.around(Picture([list(range(300))]), 0, 0, 1, 1))
        self.assertEqual(power_summary(long, 5)[2], (299, 598, 299, 299))
        self.assertEqual(power_colour(long, 5, 0, 299), 299)
        # The last copy's line lies over the one of the copy before it, which has been turned once since.
        self.assertEqual(power_colour(long, 2, 299, 299), 299)
        self.assertEqual(power_colour(long, 2, 299, 1), 1)

    def test_arguments_by_name(self):
        effect = Effect.of(GROWING)
        self.assertEqual(power_summary(exponent=3, effect=effect), power_summary(effect, 3))
        self.assertEqual(power_colour(column=0, row=-2, exponent=3, effect=effect), 1)


class TestHugeExponents(RaisingCase):

    def test_exponents_that_are_products(self):
        # A power of a power is a power, with another number of copies in what is repeated.
        for effect in chosen_effects(5, 10) + effects_with_each_symmetry():
            for small in (2, 3, 5):
                inner = power(effect, small)
                huge = 10 ** 30 + small
                summary = power_summary(effect, small * huge)
                self.assertEqual(power_summary(inner, huge), summary)
                for row, column in self.telling_places(summary[2]):
                    colour = power_colour(effect, small * huge, row, column)
                    self.assertEqual(power_colour(inner, huge, row, column), colour)

    def telling_places(self, widths):
        """Return places at the core, at the outermost lines, and in between, in all directions."""
        top, right, bottom, left = widths
        return [
            (row, column)
            for row in self.telling_numbers(top, bottom) for column in self.telling_numbers(left, right)
            if (row, column) != (0, 0)
        ]

    def telling_numbers(self, before, behind):
        """Return the numbers of lines at the core and at the ends, and one in between, with 0."""
        numbers = [0]
        numbers.extend([-number for number in (1, 2, before // 3, before - 1, before) if 0 < number <= before])
        numbers.extend([number for number in (1, 2, behind // 3, behind - 1, behind) if 0 < number <= behind])
        return sorted(set(numbers))

    def test_near_the_core_and_at_the_ends(self):
        for effect in chosen_effects(6, 10) + effects_with_each_symmetry():
            for rest in range(4):
                self.compare_ends(effect, 32 + rest, HUGE + rest)

    def compare_ends(self, effect, small, huge):
        """Demand the same colours in a huge power as in a small one, counted from the core and from the ends."""
        known = power_summary(effect, small)[2]
        widths = power_summary(effect, huge)[2]
        numbers = []
        for before, behind in ((0, 2), (3, 1)):
            pairs = [(0, 0)]
            for side, sign in ((before, -1), (behind, 1)):
                near = min(known[side], 3)
                pairs.extend([(sign * number, sign * number) for number in range(1, near + 1)])
                if widths[side] != known[side]:
                    # A side that grows has long grown beyond what is compared.
                    self.assertGreaterEqual(known[side], 6)
                ends = range(min(known[side], 3))
                pairs.extend([(sign * (known[side] - back), sign * (widths[side] - back)) for back in ends])
            numbers.append(pairs)
        for row, far_row in numbers[0]:
            for column, far_column in numbers[1]:
                if (row, column) != (0, 0):
                    colour = power_colour(effect, small, row, column)
                    self.assertEqual(power_colour(effect, huge, far_row, far_column), colour)

    def test_counts_by_hand(self):
        for exponent in (1, 2, 3, HUGE, HUGE + 1, 10 ** 99):
            # Two lines are lost at first and one line more each time after.
            losing = Effect(Symmetry(), (2, 0, 0, 0), Frame([("top", 1)]))
            self.assertEqual(power_summary(losing, exponent)[1:], ((1 + exponent, 0, 0, 0), (1, 0, 0, 0)))
            staying = Effect(Symmetry(), (0, 1, 0, 0), Frame([("right", 1)]))
            self.assertEqual(power_summary(staying, exponent)[1:], ((0, 1, 0, 0), (0, 1, 0, 0)))
            growing = Effect(Symmetry(), (0, 0, 2, 0), Frame([("bottom", 1)] * 5))
            self.assertEqual(power_summary(growing, exponent)[1:], ((0, 0, 2, 0), (0, 0, 2 + 3 * exponent, 0)))
        huge_lost = Effect(Symmetry(2), (10 ** 99, 0, 0, 1), Frame([]))
        half = 5 * 10 ** 29
        expected = (half * 10 ** 99, half, half * 10 ** 99, half)
        self.assertEqual(power_summary(huge_lost, HUGE)[1], expected)

    def test_symmetries(self):
        for symmetry in Symmetry.every():
            effect = Effect(symmetry, (0, 0, 0, 0), Frame([]))
            expected = Symmetry()
            for rest in range(8):
                self.assertEqual(power_summary(effect, HUGE + rest)[0], expected)
                expected = expected * symmetry

    def test_turning_adds_at_each_side(self):
        effect = Effect.of([("add", "top", 7), TURN])
        many = HUGE // 4
        self.assertEqual(power_summary(effect, HUGE), (Symmetry(), (0, 0, 0, 0), (many, many, many, many)))
        self.assertEqual(power_summary(effect, HUGE + 1)[2], (many, many + 1, many, many))
        self.assertEqual(power_summary(effect, HUGE + 2)[2], (many, many + 1, many + 1, many))

    def test_corners_of_growing_frames(self):
        effect = Effect.of(GROWING)
        self.assertEqual(power_summary(effect, HUGE)[2], (HUGE,) * 4)
        for number in (1, 2, HUGE // 7, HUGE - 1, HUGE):
            # In each copy the top comes before the left, then the bottom, then the right.
            self.assertEqual(power_colour(effect, HUGE, -number, -number), 2)
            self.assertEqual(power_colour(effect, HUGE, -number, number), 4)
            self.assertEqual(power_colour(effect, HUGE, number, number), 4)
            self.assertEqual(power_colour(effect, HUGE, number, -number), 3)
            if number > 1:
                self.assertEqual(power_colour(effect, HUGE, -number, 1 - number), 1)
                self.assertEqual(power_colour(effect, HUGE, -number, number - 1), 1)
        self.assertEqual(power_colour(effect, HUGE, -HUGE, 1), 1)
        self.assertEqual(power_colour(effect, HUGE, -1, HUGE), 4)

    def test_equal_colours_on_neighbouring_sides(self):
        effect = Effect.of(ALIKE)
        self.assertEqual(power_summary(effect, HUGE)[2], (2 * HUGE, HUGE, HUGE, HUGE))
        self.assertEqual(power_colour(effect, HUGE, -2 * HUGE, -HUGE), 1)
        self.assertEqual(power_colour(effect, HUGE, -2 * HUGE, HUGE), 1)
        self.assertEqual(power_colour(effect, HUGE, 1 - 2 * HUGE, HUGE), 2)
        self.assertEqual(power_colour(effect, HUGE, HUGE, HUGE), 2)
        self.assertEqual(power_colour(effect, HUGE, HUGE, -HUGE), 1)

    def test_places_beyond(self):
        for effect in chosen_effects(8, 20) + effects_with_each_symmetry():
            widths = power_summary(effect, HUGE)[2]
            for row, column in [(0, 0), *places_beyond(widths), (-10 ** 99, 10 ** 99)]:
                self.assert_raises(OutOfRange, {"value": (row, column)}, power_colour, effect, HUGE, row, column)
            for side, place in zip(SIDES, ((-1, 0), (0, 1), (1, 0), (0, -1))):
                many = widths[SIDES.index(side)]
                if many > 0:
                    self.assertIs(type(power_colour(effect, HUGE, many * place[0], many * place[1])), int)

    def test_renamed_colours(self):
        names = {1: 5, 2: 1, 3: 2, 4: 10 ** 99}
        for effect in chosen_effects(9, 20) + effects_with_each_symmetry():
            lines = [(side, names[colour]) for side, colour in effect.frame.order()]
            renamed = Effect(effect.symmetry, effect.lost, Frame(lines))
            self.assertEqual(power_summary(renamed, HUGE), power_summary(effect, HUGE))
            for row, column in self.telling_places(power_summary(effect, HUGE)[2]):
                colour = power_colour(effect, HUGE, row, column)
                self.assertEqual(power_colour(renamed, HUGE, row, column), names[colour])


class TestErrors(RaisingCase):

    def setUp(self):
        self.effect = Effect.of([("add", "top", 7), ("add", "left", 8), MIRROR])

    def test_effect(self):
        for value in NO_EFFECTS:
            self.assert_raises(InvalidEffect, {"value": value}, power_summary, value, 1)
            self.assert_raises(InvalidEffect, {"value": value}, power_summary, value, None)
            self.assert_raises(InvalidEffect, {"value": value}, power_colour, value, 1, 0, 0)
            self.assert_raises(InvalidEffect, {"value": value}, power_colour, value, -1, None, None)

    def test_exponent(self):
        for value in NO_COUNTS:
            self.assert_raises(InvalidCount, {"value": value}, power_summary, self.effect, value)
            self.assert_raises(InvalidCount, {"value": value}, power_colour, self.effect, value, -1, 0)
            self.assert_raises(InvalidCount, {"value": value}, power_colour, self.effect, value, None, True)

    def test_place(self):
        for value in NO_NUMBERS:
            for place in ((value, 0), (0, value), (-1, value), (value, -1), (value, value)):
                for exponent in (0, 1, 2, HUGE):
                    self.assert_place_refused(exponent, *place)

    def assert_place_refused(self, exponent, row, column):
        with self.assertRaises(OutOfRange) as caught:
            power_colour(self.effect, exponent, row, column)
        held = caught.exception.value
        self.assertIs(type(held), tuple)
        self.assertEqual(len(held), 2)
        self.assertIs(held[0], row)
        self.assertIs(held[1], column)
