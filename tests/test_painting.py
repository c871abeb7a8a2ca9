"""[12], wishes, [3] (h), (i) and the section pictureframes/painting.py."""

import functools
import itertools
import random

from pictureframes.errors import InvalidWishes
from pictureframes.frames import Frame
from pictureframes.painting import paint
from samples import NO_COLOURS, SIDES, RaisingCase, some_lines

NO_ROWS = (True, False, None, "0", "", b"", (), [0], {}, object(), int, 31, -31, 10 ** 99, -10 ** 99)
ONE_RING = ((-1, -1), (-1, 0), (-1, 1), (0, -1), (0, 1), (1, -1), (1, 0), (1, 1))
CORNER = tuple(place for place in itertools.product((-2, -1, 0), repeat=2) if place != (0, 0))
STRIP = tuple(place for place in itertools.product((-1, 0, 1), (0, 1, 2)) if place != (0, 0))


def needed_widths(wishes):
    """Return how many lines the places need at the top, right, bottom and left."""
    rows = [wish[0] for wish in wishes] + [0]
    columns = [wish[1] for wish in wishes] + [0]
    return (-min(rows), max(columns), max(rows), -min(columns))


@functools.cache
def colours_of_all_frames(widths, colours):
    """Return the colours at all places, as dicts, of all unlike frames with these widths."""
    sides = [side for side, width in zip(SIDES, widths) for _ in range(width)]
    top, right, bottom, left = widths
    places = [place for place in itertools.product(range(-top, bottom + 1), range(-left, right + 1)) if place != (0, 0)]
    found = {}
    for order in set(itertools.permutations(sides)):
        for chosen in itertools.product(colours, repeat=len(order)):
            frame = Frame(list(zip(order, chosen)))
            shown = tuple((place, frame.colour(*place)) for place in places)
            found[shown] = dict(shown)
    return list(found.values())


class PaintCase(RaisingCase):

    def check_fulfilled(self, wishes):
        """Demand a frame with the wanted colours, and no more lines than the places need."""
        frame = paint(wishes)
        self.assertIs(type(frame), Frame, wishes)
        for row, column, colour in wishes:
            self.assertEqual(frame.colour(row, column), colour, wishes)
        self.assertEqual(frame.widths, needed_widths(wishes))
        return frame

    def check(self, wishes, colours):
        """Compare with all frames of as many lines as the places need, in these colours."""
        frames = colours_of_all_frames(needed_widths(wishes), colours)
        if any(all(shown[row, column] == colour for row, column, colour in wishes) for shown in frames):
            self.check_fulfilled(wishes)
            return True
        self.assertIsNone(paint(wishes), wishes)
        return False


class TestExamples(RaisingCase):

    def test_painted(self):
        result = paint([(-1, 0, 7), (-1, -1, 8)]).order()
        self.assertEqual(repr(result), "[('top', 7), ('left', 8)]")

    def test_none(self):
        result = paint([(-1, 0, 1), (0, -1, 2), (-1, -1, 3)])
        self.assertEqual(repr(result), "None")


class TestPaint(PaintCase):

    def test_all_wishes_in_a_small_corner(self):
        places = ((-1, 0), (0, 1), (-1, 1), (0, 2), (-1, 2))
        for colours in itertools.product((None, 1, 2, 3), repeat=len(places)):
            wishes = [(*place, colour) for place, colour in zip(places, colours) if colour is not None]
            self.check(wishes, (1, 2, 3))

    def test_random_wishes(self):
        chosen = random.Random(1)
        for places, colours in ((ONE_RING, (1, 2)), (CORNER, (1, 2, 3)), (STRIP, (1, 2))):
            results = []
            for _ in range(400):
                many = chosen.randrange(1, len(places) + 1)
                wishes = [(*place, chosen.choice(colours)) for place in chosen.sample(places, many)]
                results.append(self.check(wishes, colours))
            self.assertGreater(results.count(True), 20)
            self.assertGreater(results.count(False), 20)

    def test_fewer_lines_do_not_do(self):
        # Frames with other widths either have no such place, or have more lines.
        for wishes in ([(-2, 0, 1)], [(0, 3, 1)], [(2, -1, 1)], [(-1, 1, 1), (1, 0, 1)]):
            self.assertEqual(len(self.check_fulfilled(wishes)), sum(needed_widths(wishes)))

    def test_wishes_of_frames(self):
        chosen = random.Random(2)
        for many in (1, 2, 4, 8, 15, 30, 60):
            for sides in (SIDES, ("top", "left"), ("top", "right", "bottom"), ("left",)):
                for colours in ((1,), (1, 2), tuple(range(40))):
                    self.check_fulfilled(self.wishes_of(chosen, some_lines(chosen, many, colours, sides)))

    def wishes_of(self, chosen, lines):
        """Return wishes for some of the places of a frame."""
        frame = Frame(lines)
        top, right, bottom, left = [min(width, 30) for width in frame.widths]
        places = [
            place for place in itertools.product(range(-top, bottom + 1), range(-left, right + 1)) if place != (0, 0)
        ]
        some = chosen.sample(places, min(len(places), chosen.choice((1, 5, 200))))
        return [(*place, frame.colour(*place)) for place in some]

    def test_no_wishes(self):
        self.assertEqual(paint([]), Frame([]))

    def test_each_side(self):
        for place, side in zip(((-1, 0), (0, 1), (1, 0), (0, -1)), SIDES):
            for colour in (0, 7, 10 ** 99):
                self.assertEqual(paint([(*place, colour)]), Frame([(side, colour)]))
            far = (30 * place[0], 30 * place[1])
            frame = self.check_fulfilled([(*far, 7)])
            self.assertEqual(frame.colours(side)[29], 7)
            self.assertEqual(len(frame), 30)

    def test_corners(self):
        for row, column in itertools.product((-1, 1), repeat=2):
            self.check_fulfilled([(row, column, 7)])
            self.check_fulfilled([(row, column, 7), (row, 0, 7)])
            self.check_fulfilled([(row, column, 7), (0, column, 7)])
            self.check_fulfilled([(row, column, 7), (row, 0, 7), (0, column, 7)])
            first = self.check_fulfilled([(row, column, 7), (row, 0, 7), (0, column, 8)])
            other = self.check_fulfilled([(row, column, 8), (row, 0, 7), (0, column, 8)])
            self.assertNotEqual(first, other)
            self.assertIsNone(paint([(row, column, 9), (row, 0, 7), (0, column, 8)]))
            self.check_fulfilled([(30 * row, 30 * column, 7), (row, column, 8)])

    def test_wishes_that_contradict_each_other_together(self):
        # Each line would have to come after the next one around.
        around = [(-1, 0, 1), (0, 1, 2), (1, 0, 3), (0, -1, 4)]
        circle = [(-1, 1, 1), (1, 1, 2), (1, -1, 3), (-1, -1, 4)]
        self.assertIsNone(paint(around + circle))
        for left_out in circle:
            self.check_fulfilled(around + [wish for wish in circle if wish != left_out])
        # The second line at the top would come before the first one.
        wishes = [(-1, 0, 1), (-2, 0, 2), (0, -1, 3), (-1, -1, 1), (-2, -1, 3)]
        self.assertIsNone(paint(wishes))
        for left_out in (1, 3, 4):
            self.check_fulfilled(wishes[:left_out] + wishes[left_out + 1:])

    def test_two_hundred_wishes(self):
        chosen = random.Random(3)
        frame = Frame(some_lines(chosen, 60, (1, 2, 3)))
        top, right, bottom, left = [min(width, 30) for width in frame.widths]
        places = [
            place for place in itertools.product(range(-top, bottom + 1), range(-left, right + 1)) if place != (0, 0)
        ]
        wishes = [(*place, frame.colour(*place)) for place in chosen.sample(places, 200)]
        self.check_fulfilled(wishes)
        self.assert_raises(InvalidWishes, {"index": None}, paint, wishes + [wishes[0]])
        ring = [(row, column, 5) for row in (-30, 30) for column in range(-30, 31)]
        self.assertEqual(self.check_fulfilled(ring).widths, (30, 30, 30, 30))

    def test_order_of_the_wishes_does_not_matter(self):
        chosen = random.Random(4)
        for _ in range(60):
            wishes = [(*place, chosen.choice((1, 2))) for place in chosen.sample(CORNER, 5)]
            found = paint(wishes) is None
            for _ in range(4):
                chosen.shuffle(wishes)
                self.assertEqual(paint(wishes) is None, found)

    def test_arguments_and_results(self):
        wishes = [(-1, 0, 7), (-1, -1, 8)]
        self.assertEqual(paint(wishes=wishes), Frame([("top", 7), ("left", 8)]))
        self.assertEqual(wishes, [(-1, 0, 7), (-1, -1, 8)])

    def test_renamed_colours(self):
        chosen = random.Random(5)
        names = {1: 0, 2: 10 ** 99, 3: 1}
        for _ in range(100):
            wishes = [(*place, chosen.choice((1, 2, 3))) for place in chosen.sample(CORNER, 5)]
            renamed = [(row, column, names[colour]) for row, column, colour in wishes]
            if paint(wishes) is None:
                self.assertIsNone(paint(renamed))
            else:
                self.check_fulfilled(renamed)


class TestErrors(RaisingCase):

    def test_no_lists(self):
        wish = (-1, 0, 7)
        wrong = (None, True, 0, "", (), (wish,), {}, {0: wish}, {wish}, iter([wish]), Frame([]), object(), wish, list)
        for value in wrong:
            self.assert_raises(InvalidWishes, {"index": None}, paint, value)
        for value in ([wish] * 201, [None] * 201, [(row, 1, 1) for row in range(500)]):
            self.assert_raises(InvalidWishes, {"index": None}, paint, value)

    def test_no_wishes(self):
        wrong = [
            None, True, 0, "", "abc", b"abc", [], {}, object(), Frame([]), (), (-1,), (-1, 0), (-1, 0, 7, 7),
            [-1, 0, 7], ((-1, 0), 7), {-1: 0}, (0, 0, 7),
        ]
        wrong.extend([(value, 1, 7) for value in NO_ROWS])
        wrong.extend([(1, value, 7) for value in NO_ROWS])
        wrong.extend([(1, 1, value) for value in NO_COLOURS])
        for value in wrong:
            self.assert_raises(InvalidWishes, {"index": 0}, paint, [value])
            self.assert_raises(InvalidWishes, {"index": 0}, paint, [value, value, None])
            self.assert_raises(InvalidWishes, {"index": 2}, paint, [(-2, 0, 7), (-2, 1, 7), value, (2, 0, 7), value])

    def test_numbers_at_the_limit(self):
        for row, column in ((30, 0), (-30, 0), (0, 30), (0, -30), (30, 30), (-30, 30), (30, -30), (-30, -30)):
            self.assertEqual(paint([(row, column, 7)]).colour(row, column), 7)
        for row, column in ((31, 0), (-31, 0), (0, 31), (0, -31), (31, 31), (30, 31), (-31, 30)):
            self.assert_raises(InvalidWishes, {"index": 0}, paint, [(row, column, 7)])

    def test_places_that_occur_twice(self):
        for place in ONE_RING:
            for other in (7, 8):
                wishes = [(*place, 7), (5, 5, 7), (*place, other)]
                self.assert_raises(InvalidWishes, {"index": 2}, paint, wishes)
                self.assert_raises(InvalidWishes, {"index": 2}, paint, wishes + [None])
                self.assert_raises(InvalidWishes, {"index": 1}, paint, [(*place, 7), (*place, other), None])
                self.assert_raises(InvalidWishes, {"index": 1}, paint, [(*place, 7), None, (*place, other)])
        self.assert_raises(InvalidWishes, {"index": 1}, paint, [(-1, 0, 7)] * 200)

    def test_index_of_the_last_one(self):
        wishes = [(row, column, 1) for row in range(1, 11) for column in range(1, 21)]
        self.assertEqual(paint(wishes).widths, (0, 20, 10, 0))
        self.assert_raises(InvalidWishes, {"index": 199}, paint, wishes[:199] + [(1, 1, 1)])
        self.assert_raises(InvalidWishes, {"index": 199}, paint, wishes[:199] + [(0, 0, 1)])
