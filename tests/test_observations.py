"""[9], [3] (g), (i) and the section pictureframes/observations.py."""

import itertools
import random

from pictureframes.effects import Effect
from pictureframes.errors import InvalidPicture, LimitExceeded
from pictureframes.frames import Frame
from pictureframes.observations import agreeing_effects, effects_between
from pictureframes.pictures import Picture
from pictureframes.symmetries import Symmetry
from samples import NO_PICTURES, RaisingCase, all_lists, all_steps, fresh_picture, some_steps

SYMMETRIES = [(turns, mirrors) for mirrors in (False, True) for turns in range(4)]


def counts_up_to(height, width):
    """Return all tuples of counts at the four sides that leave a cell of a picture of this size, ascending."""
    return [
        (top, right, bottom, left)
        for top, right, bottom, left in itertools.product(range(height), range(width), range(height), range(width))
        if top + bottom < height and right + left < width
    ]


def tried_effects(before, after):
    """Return the effects that turn one picture into another, by trying all symmetries, lost counts and widths."""
    found = []
    for turns, mirrors in SYMMETRIES:
        for lost in counts_up_to(before.height, before.width):
            for top, right, bottom, left in counts_up_to(after.height, after.width):
                frame = Frame.around(after, top, left, after.height - top - bottom, after.width - left - right)
                if frame is not None:
                    effect = Effect(Symmetry(turns, mirrors), lost, frame)
                    if effect.apply(before) == after:
                        found.append(effect)
    return found


def order_key(effect):
    return (effect.symmetry.mirrors, effect.symmetry.turns, effect.lost, effect.frame.widths)


def random_picture(chosen, height, width, colours):
    return Picture([[chosen.choice(colours) for _ in range(width)] for _ in range(height)])


def agrees(effect, observations):
    """Tell whether an effect turns each first picture into the second one."""
    for before, after in observations:
        height, width = effect.smallest
        if before.height < height or before.width < width or effect.apply(before) != after:
            return False
    return True


class TestExamples(RaisingCase):

    def test_effects_between(self):
        result = len(effects_between(Picture([[1, 2]]), Picture([[7, 7], [1, 2]])))
        self.assertEqual(repr(result), "18")


class TestEffectsBetween(RaisingCase):

    def check(self, before, after):
        """Compare the effects with those that trying finds, in the same order."""
        found = effects_between(before, after)
        self.assertIs(type(found), list)
        self.assertEqual(found, tried_effects(before, after))
        return found

    def test_all_small_pictures(self):
        sizes = ((1, 1), (1, 2), (2, 1), (2, 2))
        pictures = [
            Picture([cells[row * width:(row + 1) * width] for row in range(height)])
            for height, width in sizes for cells in itertools.product((1, 2), repeat=height * width)
        ]
        for before, after in itertools.product(pictures, repeat=2):
            self.check(before, after)

    def test_larger_pictures(self):
        chosen = random.Random(1)
        some = 0
        for _ in range(40):
            before = random_picture(chosen, chosen.randrange(1, 4), chosen.randrange(1, 4), (1, 2))
            steps = some_steps(chosen, chosen.randrange(1, 6), (1, 2))
            effect = Effect.of(steps)
            height, width = effect.smallest
            if before.height < height or before.width < width:
                continue
            after = effect.apply(before)
            if after.height * after.width <= 12:
                some += 1
                self.assertIn(effect, self.check(before, after))
        self.assertGreater(some, 10)

    def test_unlike_cells(self):
        # All of the picture is left, so that only one effect fits.
        before = fresh_picture(2, 3)
        for turns, mirrors in SYMMETRIES:
            effect = Effect(Symmetry(turns, mirrors), (0, 0, 0, 0), Frame([("left", 7), ("top", 8)]))
            self.assertIn(effect, effects_between(before, effect.apply(before)))
            whole = [one for one in effects_between(before, effect.apply(before)) if one.lost == (0, 0, 0, 0)]
            self.assertEqual(whole, [effect])

    def test_all_sequences_that_are_short(self):
        before = fresh_picture(3, 3)
        for steps in all_lists(all_steps((1,)), 2):
            effect = Effect.of(steps)
            self.assertIn(effect, effects_between(before, effect.apply(before)))

    def test_none(self):
        self.assertEqual(effects_between(Picture([[1]]), Picture([[2]])), [])
        self.assertEqual(effects_between(Picture([[1]]), Picture([[2, 3], [3, 2]])), [])
        self.assertEqual(effects_between(Picture([[1, 2], [3, 4]]), Picture([[1, 3], [2, 5]])), [])

    def test_order(self):
        found = effects_between(Picture.filled(2, 3, 7), Picture.filled(3, 2, 7))
        self.assertEqual([order_key(effect) for effect in found], sorted(order_key(effect) for effect in found))
        parts = [(effect.symmetry.turns, effect.symmetry.mirrors, effect.lost, effect.frame.widths) for effect in found]
        self.assertEqual(parts[0], (0, False, (0, 0, 0, 1), (0, 0, 1, 0)))
        self.assertEqual(parts[1], (0, False, (0, 0, 0, 1), (1, 0, 0, 0)))
        self.assertEqual(len(set(parts)), len(parts))
        # Eight symmetries, each with as many pairs of a part and an equally large one.
        sizes = [(3 - height) * (4 - width) * (4 - height) * (3 - width) for height in (1, 2) for width in (1, 2)]
        turned = [
            (3 - height) * (4 - width) * (4 - width) * (3 - height) for height in (1, 2) for width in (1, 2, 3)
        ]
        self.assertEqual(len(parts), 4 * sum(sizes) + 4 * sum(turned))

    def test_one_effect_for_each_way(self):
        found = effects_between(Picture([[1]]), Picture([[1]]))
        self.assertEqual(found, [Effect(symmetry, (0, 0, 0, 0), Frame([])) for symmetry in Symmetry.every()])

    def test_sizes_at_the_limit(self):
        for height, width in ((1, 36), (36, 1), (6, 6), (4, 9), (12, 3)):
            picture = fresh_picture(height, width)
            found = effects_between(picture, picture)
            self.assertIn(Effect.identity(), found)
            one = Picture([[7]])
            self.assertEqual(effects_between(picture, one), [])
            self.assertEqual(effects_between(one, picture), [])

    def test_one_colour_at_the_limit(self):
        found = effects_between(Picture.filled(6, 6, 7), Picture.filled(6, 6, 7))
        self.assertEqual(len(found), 8 * sum((7 - height) ** 2 for height in range(1, 7)) ** 2)

    def test_limit(self):
        small = Picture([[1]])
        for height, width in ((1, 37), (37, 1), (38, 1), (5, 8), (1000, 1000)):
            large = Picture.filled(height, width, 1)
            count = {"count": height * width}
            self.assert_raises(LimitExceeded, count, effects_between, large, small)
            self.assert_raises(LimitExceeded, count, effects_between, small, large)
            self.assert_raises(LimitExceeded, count, effects_between, large, Picture.filled(50, 50, 1))
        before, after = Picture.filled(3, 13, 1), Picture.filled(1, 38, 1)
        self.assert_raises(LimitExceeded, {"count": 39}, effects_between, before, after)

    def test_refused(self):
        small = Picture([[1]])
        large = Picture.filled(7, 7, 1)
        for value in NO_PICTURES:
            self.assert_raises(InvalidPicture, {"value": value}, effects_between, value, small)
            self.assert_raises(InvalidPicture, {"value": value}, effects_between, value, None)
            self.assert_raises(InvalidPicture, {"value": value}, effects_between, small, value)
            self.assert_raises(InvalidPicture, {"value": value}, effects_between, large, value)

    def test_arguments_and_results(self):
        before, after = Picture([[1, 2]]), Picture([[7, 7], [1, 2]])
        found = effects_between(after=after, before=before)
        found.clear()
        self.assertEqual(len(effects_between(before, after)), 18)

    def test_renamed_colours(self):
        chosen = random.Random(2)
        names = {1: 5, 2: 1, 3: 0}
        for _ in range(20):
            before = random_picture(chosen, 2, 3, (1, 2, 3))
            after = random_picture(chosen, 2, 2, (1, 2, 3))
            renamed = effects_between(*[
                Picture([[names[colour] for colour in row] for row in picture.rows]) for picture in (before, after)
            ])
            expected = [
                Effect(one.symmetry, one.lost, Frame([(side, names[colour]) for side, colour in one.frame.order()]))
                for one in effects_between(before, after)
            ]
            self.assertEqual(renamed, expected)


class TestAgreeingEffects(RaisingCase):

    def check(self, observations):
        """Compare the effects with those of the first observation that agree with the others."""
        found = agreeing_effects(observations)
        self.assertIs(type(found), list)
        expected = [effect for effect in effects_between(*observations[0]) if agrees(effect, observations)]
        self.assertEqual(found, expected)
        return found

    def test_one_observation(self):
        chosen = random.Random(3)
        for _ in range(60):
            before = random_picture(chosen, chosen.randrange(1, 5), chosen.randrange(1, 5), (1, 2))
            after = random_picture(chosen, chosen.randrange(1, 4), chosen.randrange(1, 4), (1, 2))
            self.assertEqual(agreeing_effects([(before, after)]), effects_between(before, after))

    def test_several_observations(self):
        chosen = random.Random(4)
        some = 0
        for many in (2, 2, 2, 3, 20):
            for _ in range(60):
                effect = Effect.of(some_steps(chosen, chosen.randrange(5), (1, 2)))
                height, width = effect.smallest
                pictures = [
                    random_picture(chosen, height + chosen.randrange(3), width + chosen.randrange(3), (1, 2))
                    for _ in range(many)
                ]
                observations = [(picture, effect.apply(picture)) for picture in pictures]
                if any(picture.height * picture.width > 36 for picture in observations[0]):
                    continue
                found = self.check(observations)
                self.assertIn(effect, found)
                some += len(found) > 1
        self.assertGreater(some, 30)

    def test_random_observations(self):
        chosen = random.Random(5)
        for _ in range(200):
            observations = [
                tuple(random_picture(chosen, chosen.randrange(1, 4), chosen.randrange(1, 4), (1,)) for _ in range(2))
                for _ in range(chosen.randrange(2, 4))
            ]
            self.check(observations)
            observations.append((observations[0][0], random_picture(chosen, 2, 2, (1, 2))))
            self.check(observations)

    def test_first_pictures_that_are_too_small(self):
        cutting = Effect.of([("cut", "top"), ("add", "top", 2)])
        large = (Picture([[1], [1]]), Picture([[2], [1]]))
        self.assertIn(cutting, agreeing_effects([large]))
        small = (Picture([[1]]), Picture([[2]]))
        self.assertEqual(agreeing_effects([large, small]), [])
        # On one row, only effects that lose no row at all are left.
        wide = (Picture([[1, 1]]), Picture([[2, 2], [1, 1]]))
        adding = (Picture([[1, 1], [1, 1]]), Picture([[2, 2], [1, 1], [1, 1]]))
        found = self.check([adding, wide])
        self.assertEqual({effect.lost[0] + effect.lost[2] for effect in found}, {0})
        self.assertIn(Effect.of([("add", "top", 2)]), found)
        self.check([(Picture.filled(3, 3, 1), Picture.filled(3, 3, 1)), (Picture([[1]]), Picture([[1]]))])

    def test_later_results_of_other_sizes(self):
        same = (Picture.filled(3, 2, 1), Picture.filled(3, 2, 1))
        for height, width in ((1, 1), (1, 2), (2, 2), (3, 1), (3, 3), (4, 2), (2, 3)):
            self.check([same, (Picture.filled(3, 2, 1), Picture.filled(height, width, 1))])
            self.check([same, (Picture.filled(height, width, 1), Picture.filled(3, 2, 1))])
            self.check([same, (Picture.filled(height, width, 1), Picture.filled(height, width, 1))])

    def test_later_frames_of_other_colours(self):
        first = (Picture([[1]]), Picture([[2, 2], [2, 1]]))
        self.assertEqual(len(self.check([first])), 8)
        self.assertEqual(self.check([first, (Picture([[1]]), Picture([[2, 2], [3, 1]]))]), [])
        self.assertEqual(self.check([first, (Picture([[1]]), Picture([[2, 3], [2, 1]]))]), [])
        self.assertEqual(len(self.check([first, (Picture([[5]]), Picture([[2, 2], [2, 5]]))])), 8)
        self.assertEqual(len(self.check([first, (Picture([[5, 6]]), Picture([[2, 2, 2], [2, 5, 6]]))])), 2)

    def test_pictures_that_tell_symmetries_apart(self):
        first = (Picture([[1]]), Picture([[1]]))
        for effect in effects_between(*first):
            later = fresh_picture(7, 8)
            self.assertEqual(agreeing_effects([first, (later, effect.apply(later))]), [effect])

    def test_twenty(self):
        observation = (Picture.filled(2, 2, 1), Picture.filled(3, 2, 1))
        self.assertEqual(agreeing_effects([observation] * 20), effects_between(*observation))

    def test_later_ones_are_not_limited(self):
        first = (Picture([[1, 1]]), Picture([[7, 7], [1, 1]]))
        effect = Effect.of([("add", "top", 7)])
        # A single row is the same upside down, and a single column mirrored.
        twins = {(1, 37): [Symmetry(2, True)], (37, 1): [Symmetry(0, True)]}
        for height, width in ((1, 37), (37, 1), (7, 7), (200, 300)):
            later = fresh_picture(height, width)
            symmetries = [Symmetry()] + twins.get((height, width), [])
            expected = [Effect(symmetry, (0, 0, 0, 0), effect.frame) for symmetry in symmetries]
            self.assertEqual(agreeing_effects([first, (later, effect.apply(later))]), expected)
            self.assertEqual(agreeing_effects([first, (later, later)]), [])
            self.assertEqual(agreeing_effects([first, (Picture([[1]]), later)]), [])
        same = (Picture.filled(6, 6, 7), Picture.filled(6, 6, 7))
        later = (Picture.filled(12, 12, 7), Picture.filled(12, 12, 7))
        self.assertEqual(len(agreeing_effects([same, later])), len(effects_between(*same)))

    def test_limit(self):
        small = Picture([[1]])
        large = Picture.filled(1, 37, 1)
        larger = Picture.filled(5, 8, 1)
        for later in ([], [(small, small)], [(larger, larger)]):
            self.assert_raises(LimitExceeded, {"count": 37}, agreeing_effects, [(large, small)] + later)
            self.assert_raises(LimitExceeded, {"count": 37}, agreeing_effects, [(small, large)] + later)
            self.assert_raises(LimitExceeded, {"count": 40}, agreeing_effects, [(larger, large)] + later)
        largest = Picture.filled(4, 9, 1)
        self.assertIn(Effect.identity(), agreeing_effects([(largest, largest)]))

    def test_refused(self):
        picture = Picture([[1]])
        pair = (picture, picture)
        wrong_items = [
            None, True, 0, "", picture, (), (picture,), (picture, picture, picture), [picture, picture], [], {},
            {0: picture, 1: picture}, (pair, pair), object(),
            *[(value, picture) for value in NO_PICTURES], *[(picture, value) for value in NO_PICTURES],
        ]
        wrong = [
            None, True, 0, "", [], (), {}, (pair,), {0: pair}, {pair[0].rows}, iter([pair]), pair, picture,
            [pair] * 21, [pair] * 100, object(),
        ]
        for item in wrong_items:
            wrong.extend([[item], [pair, item], [item, pair], [pair] * 19 + [item]])
            # An observation that is too large counts only after all other errors.
            large = (Picture.filled(7, 7, 1), picture)
            wrong.append([large, item])
        for value in wrong:
            self.assert_raises(InvalidPicture, {"value": value}, agreeing_effects, value)
        self.assertEqual(len(agreeing_effects([pair] * 20)), 8)

    def test_arguments_and_results(self):
        pair = (Picture([[1, 2]]), Picture([[7, 7], [1, 2]]))
        observations = [pair, pair]
        found = agreeing_effects(observations=observations)
        self.assertEqual(len(found), 18)
        found.clear()
        self.assertEqual(len(agreeing_effects(observations)), 18)
        self.assertEqual(observations, [pair, pair])
