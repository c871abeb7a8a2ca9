"""[7], [8], [3] (c), (i) and the section pictureframes/frames.py."""

import collections
import functools
import inspect
import itertools
import math
import random

from pictureframes.errors import (
    InvalidFrame, InvalidPicture, InvalidSide, InvalidSymmetry, LimitExceeded, OutOfRange,
)
from pictureframes.frames import Frame
from pictureframes.pictures import Picture
from pictureframes.symmetries import Symmetry
from samples import (
    NO_COLOURS, NO_PICTURES, NO_SIDES, NO_SYMMETRIES, SIDES, RaisingCase, all_lists, fresh_picture, some_lines,
)

LINES = [(side, colour) for side in SIDES for colour in (1, 2)]
NO_PLACES = (True, False, None, "0", "", b"", (), (0,), [0], {}, object(), int)


def order_key(lines):
    return [(SIDES.index(side), colour) for side, colour in lines]


def widths_of(lines):
    return tuple(len([line for line in lines if line[0] == side]) for side in SIDES)


def picture_of(lines, core):
    """Return the core after the lines were added one by one."""
    picture = core
    for side, colour in lines:
        picture = picture.added(side, colour)
    return picture


def colours_at_places(lines, height, width):
    """Return a dict from each place to the set of its colours in a picture, with a core of this size."""
    top, right, bottom, left = widths_of(lines)
    rows = picture_of(lines, fresh_picture(height, width)).rows
    row_numbers = [*range(-top, 0), *[0] * height, *range(1, bottom + 1)]
    column_numbers = [*range(-left, 0), *[0] * width, *range(1, right + 1)]
    found = collections.defaultdict(set)
    for row, cells in zip(row_numbers, rows, strict=True):
        for column, colour in zip(column_numbers, cells, strict=True):
            if (row, column) != (0, 0):
                found[row, column].add(colour)
    return found


def frame_key(lines):
    """Return what tells the frames of two lists of lines apart."""
    return widths_of(lines), picture_of(lines, fresh_picture(1, 1)).rows


def interleavings(lines):
    """Return all lists of these lines in which those of each side keep their order."""
    found = []
    for sides in set(itertools.permutations([line[0] for line in lines])):
        queues = {side: iter([line for line in lines if line[0] == side]) for side in SIDES}
        found.append([next(queues[side]) for side in sides])
    return found


@functools.cache
def groups():
    """Return, for each frame of at most four lines of two colours, all its orders, ascending."""
    found = collections.defaultdict(list)
    for lines in all_lists(LINES, 4):
        found[frame_key(lines)].append(lines)
    return [sorted(orders, key=order_key) for orders in found.values()]


def larger_lines():
    """Return lists of more lines, up to 200."""
    chosen = random.Random(7)
    kinds = itertools.product((5, 8, 12, 20), (1, 2, 3, 5), range(4))
    found = [some_lines(chosen, many, range(most)) for many, most, _ in kinds]
    found.extend([some_lines(chosen, 40), some_lines(chosen, 200), some_lines(chosen, 200, range(300))])
    return found


class TestExamples(RaisingCase):

    def test_around(self):
        frame = Frame.around(Picture([[8, 7], [8, 1]]), 1, 1, 1, 1)
        self.assertEqual(repr(frame.order()), "[('top', 7), ('left', 8)]")

    def test_colour(self):
        self.assertEqual(repr(Frame([("top", 7), ("left", 8)]).colour(-1, -1)), "8")

    def test_order(self):
        self.assertEqual(repr(Frame([("left", 7), ("top", 7)]).order()), "[('top', 7), ('left', 7)]")

    def test_count_orders(self):
        self.assertEqual(repr(Frame([("top", 1), ("bottom", 2)]).count_orders()), "2")

    def test_peelable(self):
        self.assertEqual(repr(Frame([("top", 7), ("left", 8)]).peelable()), "['left']")

    def test_cut(self):
        self.assertEqual(repr(Frame([("top", 7), ("left", 8)]).cut("top").order()), "[('left', 8)]")

    def test_moved(self):
        self.assertEqual(repr(Frame([("top", 7)]).moved(Symmetry(1)).order()), "[('right', 7)]")


class TestMaking(RaisingCase):

    def test_lists_and_tuples(self):
        for lines in ([], (), [("top", 0)], (("left", 10 ** 99),), [("top", 1), ("top", 1), ("right", 2)]):
            for frame in (Frame(lines), Frame(lines=lines), Frame(tuple(lines)), Frame(list(lines))):
                self.assertIs(type(frame), Frame)
                self.assertEqual(frame.order(), list(lines))
                self.assertEqual(len(frame), len(lines))

    def test_two_hundred_lines(self):
        for side in SIDES:
            lines = [(side, colour) for colour in range(200)]
            self.assertEqual(Frame(lines).colours(side), list(range(200)))
            self.assert_raises(InvalidFrame, {"index": None}, Frame, lines + [(side, 200)])
            self.assert_raises(InvalidFrame, {"index": None}, Frame, tuple(lines) + ((side, 200),))

    def test_no_list(self):
        line = ("top", 1)
        wrong = (
            None, True, False, 0, 5, "", "top", b"", {}, {0: line}, {line}, object(), range(0), iter([line]), list,
            Picture([[1]]), Frame([line]), [None] * 201, (None,) * 300,
        )
        for value in wrong:
            self.assert_raises(InvalidFrame, {"index": None}, Frame, value)
            self.assert_raises(InvalidFrame, {"index": None}, Frame, lines=value)

    def test_wrong_lines(self):
        wrong = [
            None, True, 0, "", "top", b"top", [], {}, object(), Frame([]),
            (), ("top",), (1,), ["top", 1], ("top", 1, 1), ("top", 1, None), (1, "top"), ("add", "top", 1),
            (("top", 1),), "ab", {"top": 1, "left": 2}, ("top", ("top", 1)),
        ]
        wrong.extend([(side, 1) for side in NO_SIDES])
        wrong.extend([("top", colour) for colour in NO_COLOURS])
        for line in wrong:
            self.assert_raises(InvalidFrame, {"index": 0}, Frame, [line])
            self.assert_raises(InvalidFrame, {"index": 0}, Frame, (line, line))
            self.assert_raises(InvalidFrame, {"index": 2}, Frame, [("top", 1), ("left", 2), line, ("top", 1), line])
        self.assert_raises(InvalidFrame, {"index": 0}, Frame, ("top", 1))
        self.assert_raises(InvalidFrame, {"index": 199}, Frame, [("top", 1)] * 199 + [("top", True)])

    def test_argument_stays_and_does_not_matter_later(self):
        lines = [("left", 7), ("top", 7)]
        frame = Frame(lines)
        self.assertEqual(lines, [("left", 7), ("top", 7)])
        lines[0] = ("right", 3)
        lines.append("no line")
        self.assertEqual(frame.order(), [("top", 7), ("left", 7)])

    def test_length(self):
        for lines in larger_lines():
            self.assertEqual(len(Frame(lines)), len(lines))

    def test_repr_shows_the_least_order(self):
        self.assertEqual(repr(Frame([])), "Frame([])")
        self.assertEqual(repr(Frame([("left", 7), ("top", 7)])), "Frame([('top', 7), ('left', 7)])")
        self.assertEqual(repr(Frame([("left", 8), ("top", 7)])), "Frame([('left', 8), ('top', 7)])")
        for lines in larger_lines():
            self.assertEqual(repr(Frame(lines)), f"Frame({Frame(lines).order()!r})")


class TestPlaces(RaisingCase):

    def check(self, lines, height, width):
        frame = Frame(lines)
        self.assertEqual(frame.widths, widths_of(lines))
        self.assertIs(type(frame.widths), tuple)
        for side in SIDES:
            self.assertEqual(frame.colours(side), [colour for other, colour in lines if other == side])
            self.assertIs(type(frame.colours(side=side)), list)
        for (row, column), colours in colours_at_places(lines, height, width).items():
            self.assertEqual(colours, {frame.colour(row, column)})

    def test_small_frames(self):
        for lines in all_lists(LINES, 4):
            self.check(lines, 1, 1)

    def test_larger_frames(self):
        for lines in larger_lines():
            self.check(lines, 2, 3)

    def test_lines_on_all_four_sides_written_out(self):
        frame = Frame([("top", 1), ("right", 2), ("bottom", 3), ("left", 4), ("top", 5)])
        rows = [[frame.colour(row, column) for column in (-1, 0, 1)] for row in (-2, -1, 1)]
        self.assertEqual(rows, [[5, 5, 5], [4, 1, 2], [4, 3, 3]])
        self.assertEqual([frame.colour(0, column) for column in (-1, 1)], [4, 2])
        self.assertEqual(frame.colour(column=-1, row=1), 4)
        self.assertEqual(frame.widths, (2, 1, 1, 1))
        self.assertEqual(frame.colours("top"), [1, 5])

    def test_no_places(self):
        for lines in ([], [("top", 7)], [("right", 7), ("bottom", 8)], [(side, 1) for side in SIDES] * 2):
            frame = Frame(lines)
            top, right, bottom, left = frame.widths
            rows, columns = range(-top, bottom + 1), range(-left, right + 1)
            for row in range(-top - 2, bottom + 3):
                for column in range(-left - 2, right + 3):
                    if row in rows and column in columns and (row, column) != (0, 0):
                        self.assertIn(frame.colour(row, column), (1, 7, 8))
                    else:
                        self.assert_raises(OutOfRange, {"value": (row, column)}, frame.colour, row, column)
            self.assert_raises(OutOfRange, {"value": (10 ** 99, 0)}, frame.colour, 10 ** 99, 0)
            self.assert_raises(OutOfRange, {"value": (0, -10 ** 99)}, frame.colour, 0, -10 ** 99)

    def test_values_that_are_no_integers(self):
        frame = Frame([(side, 1) for side in SIDES])
        for value in NO_PLACES:
            for pair in ((value, 1), (1, value), (value, 0), (0, value), (value, value), (value, 5)):
                with self.assertRaises(OutOfRange) as caught:
                    frame.colour(*pair)
                held = caught.exception.value
                self.assertIs(type(held), tuple)
                self.assertEqual(len(held), 2)
                self.assertIs(held[0], pair[0])
                self.assertIs(held[1], pair[1])

    def test_colours_refuses(self):
        for value in NO_SIDES:
            self.assert_raises(InvalidSide, {"value": value}, Frame([("top", 1)]).colours, value)

    def test_lists_are_new(self):
        frame = Frame([("top", 7), ("left", 8)])
        frame.colours("top").append(9)
        frame.order().clear()
        frame.peelable().clear()
        for order in frame.orders():
            order.clear()
        self.assertEqual(frame.colours("top"), [7])
        self.assertEqual(frame.order(), [("top", 7), ("left", 8)])
        self.assertEqual(frame.peelable(), ["left"])
        self.assertEqual(list(frame.orders()), [[("top", 7), ("left", 8)]])


class TestEquality(RaisingCase):

    def test_frames_of_different_orders(self):
        for orders in groups():
            first = Frame(orders[0])
            for lines in orders:
                self.assertIs(Frame(lines) == first, True)
                self.assertIs(Frame(lines) != first, False)

    def test_unlike_frames(self):
        frames = [Frame(orders[0]) for orders in groups()]
        self.assertEqual(len({repr(frame) for frame in frames}), len(frames))
        for place, one in enumerate(frames[:300]):
            for other in frames[:place]:
                self.assertIs(one == other, False)
                self.assertIs(one != other, True)

    def test_only_one_corner_differs(self):
        one = Frame([("top", 1), ("left", 2), ("bottom", 1), ("right", 2)])
        other = Frame([("top", 1), ("left", 2), ("right", 2), ("bottom", 1)])
        self.assertEqual([one.colours(side) for side in SIDES], [other.colours(side) for side in SIDES])
        self.assertIs(one == other, False)

    def test_same_lines_on_other_sides(self):
        self.assertIs(Frame([("top", 1), ("bottom", 2)]) == Frame([("top", 2), ("bottom", 1)]), False)
        self.assertIs(Frame([("top", 1)]) == Frame([("bottom", 1)]), False)
        self.assertIs(Frame([("top", 1)]) == Frame([("top", 1), ("top", 1)]), False)

    def test_other_values(self):
        frame = Frame([("top", 1)])
        for value in (None, True, 1, "", [("top", 1)], (("top", 1),), repr(frame), Symmetry(), Picture([[1]]), Frame):
            self.assertIs(frame == value, False)
            self.assertIs(value == frame, False)
            self.assertIs(frame != value, True)


class TestOrders(RaisingCase):

    def test_is_a_generator_function(self):
        self.assertTrue(inspect.isgeneratorfunction(Frame.orders))

    def test_small_frames(self):
        for orders in groups():
            for lines in (orders[0], orders[-1]):
                frame = Frame(lines)
                self.assertEqual(frame.order(), orders[0])
                self.assertEqual(list(frame.orders()), orders)
                self.assertEqual(frame.count_orders(), len(orders))

    def test_larger_frames(self):
        chosen = random.Random(11)
        for many, most in ((5, 1), (5, 2), (6, 2), (6, 3), (7, 2), (7, 3), (8, 2)):
            lines = some_lines(chosen, many, range(most))
            same = [order for order in interleavings(lines) if frame_key(order) == frame_key(lines)]
            frame = Frame(lines)
            self.assertEqual(list(frame.orders()), sorted(same, key=order_key))
            self.assertEqual(frame.order(), min(same, key=order_key))
            self.assertEqual(frame.count_orders(), len(same))

    def test_no_line(self):
        frame = Frame([])
        self.assertEqual(frame.order(), [])
        self.assertEqual(list(frame.orders()), [[]])
        self.assertEqual(frame.count_orders(), 1)

    def test_many_lines_have_a_least_order(self):
        for lines in larger_lines():
            frame = Frame(lines)
            order = frame.order()
            self.assertIs(type(order), list)
            self.assertEqual(frame_key(order), frame_key(lines))
            self.assertLessEqual(order_key(order), order_key(lines))
            self.assertEqual(Frame(order), frame)
            self.assertEqual(Frame(order).order(), order)
        same = [("left", 3), ("bottom", 3), ("right", 3), ("top", 3)] * 50
        self.assertEqual(Frame(same).order(), [(side, 3) for side in SIDES for _ in range(50)])

    def test_sides_come_before_colours(self):
        frame = Frame([("left", 1), ("right", 9), ("right", 2)])
        self.assertEqual(frame.order(), [("right", 9), ("right", 2), ("left", 1)])
        self.assertEqual(list(frame.orders()), [
            [("right", 9), ("right", 2), ("left", 1)],
            [("right", 9), ("left", 1), ("right", 2)],
            [("left", 1), ("right", 9), ("right", 2)],
        ])

    def test_twelve_lines(self):
        frame = Frame([(side, 1) for side in ("top", "right", "bottom") for _ in range(4)])
        orders = list(frame.orders())
        self.assertEqual(len(orders), math.factorial(12) // math.factorial(4) ** 3)
        self.assertEqual(len(orders), frame.count_orders())
        keys = [order_key(order) for order in orders]
        self.assertTrue(all(one < other for one, other in zip(keys, keys[1:])))

    def test_orders_is_limited_when_it_is_iterated(self):
        frame = Frame([("top", 1)] * 13)
        orders = frame.orders()
        self.assert_raises(LimitExceeded, {"count": 13}, next, orders)
        self.assert_raises(LimitExceeded, {"count": 200}, list, Frame([("top", 1)] * 200).orders())
        self.assertEqual(list(Frame([("top", 1)] * 12).orders()), [[("top", 1)] * 12])

    def test_count_of_opposite_sides(self):
        for one, other in (("top", "bottom"), ("left", "right")):
            for many in range(7):
                for more in range(7):
                    lines = [(one, 1)] * many + [(other, 2)] * more
                    self.assertEqual(Frame(lines).count_orders(), math.comb(many + more, more))

    def test_count_of_neighbouring_sides(self):
        for one, other in zip(SIDES, SIDES[1:] + SIDES[:1]):
            for many in range(5):
                unlike = [(one, 1)] * many + [(other, 2)] * 4
                self.assertEqual(Frame(unlike).count_orders(), 1)
                alike = [(one, 1)] * many + [(other, 1)] * 4
                self.assertEqual(Frame(alike).count_orders(), math.comb(many + 4, 4))

    def test_count_of_forty_lines(self):
        alike = Frame([(side, 1) for _ in range(10) for side in SIDES])
        self.assertEqual(alike.count_orders(), math.factorial(40) // math.factorial(10) ** 4)
        # Each line has a neighbour of another colour just before it.
        self.assertEqual(Frame([(side, SIDES.index(side)) for side in SIDES * 10]).count_orders(), 1)
        # Here the lines of each pair on opposite sides may change places.
        pairs = [(side, SIDES.index(side)) for side in ("top", "bottom", "left", "right") * 10]
        self.assertEqual(Frame(pairs).count_orders(), 4 ** 10)
        self.assertEqual(Frame([("top", 1)] * 20 + [("bottom", 2)] * 20).count_orders(), math.comb(40, 20))

    def test_count_is_limited(self):
        for many in (41, 42, 200):
            frame = Frame([(SIDES[place % 4], 1) for place in range(many)])
            self.assert_raises(LimitExceeded, {"count": many}, frame.count_orders)


class TestPeeling(RaisingCase):

    def check(self, lines):
        frame = Frame(lines)
        core = fresh_picture(2, 2)
        picture = frame.enclose(core)
        widths = dict(zip(SIDES, frame.widths))
        sides = [side for side in SIDES if widths[side] > 0 and len(set(picture.line(side))) == 1]
        self.assertEqual(frame.peelable(), sides)
        for side in SIDES:
            if widths[side] == 0:
                self.assert_raises(OutOfRange, {"value": side}, frame.cut, side)
                continue
            smaller = frame.cut(side)
            self.assertIs(type(smaller), Frame)
            self.assertEqual(smaller.enclose(core), picture.cut(side))
            if side in sides:
                self.assertEqual([other for other in sides if other != side and other not in smaller.peelable()], [])
                self.assertEqual(Frame(smaller.order() + [(side, frame.colours(side)[-1])]), frame)
        self.assertEqual(frame, Frame(lines))

    def test_small_frames(self):
        for orders in groups():
            self.check(orders[0])
            self.assertEqual(set(Frame(orders[0]).peelable()), {order[-1][0] for order in orders if order})

    def test_larger_frames(self):
        for lines in larger_lines():
            self.check(lines)

    def test_no_line(self):
        self.assertEqual(Frame([]).peelable(), [])

    def test_opposite_lines_do_not_hide_each_other(self):
        self.assertEqual(Frame([("bottom", 1), ("top", 2)]).peelable(), ["top", "bottom"])
        self.assertEqual(Frame([("left", 1), ("right", 2)]).peelable(), ["right", "left"])

    def test_lines_of_one_colour(self):
        self.assertEqual(Frame([("left", 1), ("bottom", 1), ("right", 1), ("top", 1)]).peelable(), list(SIDES))

    def test_an_inner_line_is_not_peeled(self):
        # The inner line at the top is uniform, but the outermost one is not.
        frame = Frame([("left", 2), ("top", 1), ("top", 3), ("right", 4)])
        self.assertEqual(frame.peelable(), ["right"])

    def test_every_frame_is_peeled_to_the_end(self):
        for lines in larger_lines():
            frame = Frame(lines)
            for _ in lines:
                frame = frame.cut(side=frame.peelable()[-1])
            self.assertEqual(frame, Frame([]))

    def test_cut_of_a_line_that_cannot_be_peeled(self):
        frame = Frame([("top", 1), ("left", 2), ("top", 3), ("right", 4)])
        self.assertEqual(frame.cut("top"), Frame([("top", 1), ("left", 2), ("right", 4)]))
        self.assertEqual(frame.cut("left"), Frame([("top", 1), ("top", 3), ("right", 4)]))

    def test_cut_refuses(self):
        for value in NO_SIDES:
            self.assert_raises(InvalidSide, {"value": value}, Frame([("top", 1)]).cut, value)
            self.assert_raises(InvalidSide, {"value": value}, Frame([]).cut, value)


class TestMoving(RaisingCase):

    def check(self, lines):
        frame = Frame(lines)
        core = fresh_picture(2, 3)
        for symmetry in Symmetry.every():
            moved = frame.moved(symmetry)
            self.assertIs(type(moved), Frame)
            self.assertEqual(moved.enclose(symmetry.apply(core)), symmetry.apply(frame.enclose(core)))
            self.assertEqual(moved, Frame([(symmetry.side(side), colour) for side, colour in lines]))
        self.assertEqual(frame, Frame(lines))

    def test_small_frames(self):
        for orders in groups():
            self.check(orders[0])

    def test_larger_frames(self):
        for lines in larger_lines():
            self.check(lines)

    def test_written_out(self):
        frame = Frame([("top", 1), ("left", 2)])
        self.assertEqual(frame.moved(symmetry=Symmetry(1, True)).order(), [("right", 1), ("bottom", 2)])

    def test_refused(self):
        for value in NO_SYMMETRIES:
            self.assert_raises(InvalidSymmetry, {"value": value}, Frame([]).moved, value)


class TestEnclosing(RaisingCase):

    def test_frames(self):
        for lines in all_lists(LINES, 3) + larger_lines():
            for height, width in ((1, 1), (2, 3)):
                core = fresh_picture(height, width)
                result = Frame(lines).enclose(core)
                self.assertIs(type(result), Picture)
                self.assertEqual(result, picture_of(lines, core))
                self.assertEqual(core, fresh_picture(height, width))

    def test_written_out(self):
        frame = Frame([("top", 7), ("left", 8), ("bottom", 9)])
        self.assertEqual(frame.enclose(picture=Picture([[1, 2]])).rows, ((8, 7, 7), (8, 1, 2), (9, 9, 9)))

    def test_no_line(self):
        self.assertEqual(Frame([]).enclose(Picture([[1, 2]])), Picture([[1, 2]]))

    def test_refused(self):
        for value in NO_PICTURES:
            self.assert_raises(InvalidPicture, {"value": value}, Frame([("top", 1)]).enclose, value)


def frames_of_widths(widths, colours):
    """Return the lists of lines of all frames with these widths, some of them several times."""
    sides = [side for side, width in zip(SIDES, widths) for _ in range(width)]
    return [
        list(zip(order, chosen))
        for order in set(itertools.permutations(sides))
        for chosen in itertools.product(colours, repeat=len(sides))
    ]


class TestAround(RaisingCase):

    def check_all_rectangles(self, picture):
        """Compare each rectangle with all frames of its widths."""
        colours = sorted({colour for row in picture.rows for colour in row})
        for row, column in itertools.product(range(picture.height), range(picture.width)):
            for height in range(1, picture.height - row + 1):
                for width in range(1, picture.width - column + 1):
                    core = Picture([cells[column:column + width] for cells in picture.rows[row:row + height]])
                    widths = (row, picture.width - column - width, picture.height - row - height, column)
                    fitting = [
                        lines for lines in frames_of_widths(widths, colours) if picture_of(lines, core) == picture
                    ]
                    found = Frame.around(picture, row, column, height, width)
                    if not fitting:
                        self.assertIsNone(found)
                        continue
                    self.assertIs(type(found), Frame)
                    self.assertEqual([lines for lines in fitting if Frame(lines) != found], [])
                    self.assertEqual(found.enclose(core), picture)

    def test_all_small_pictures(self):
        for height, width in ((1, 1), (1, 3), (3, 1), (2, 2), (2, 3)):
            for cells in itertools.product((0, 1), repeat=height * width):
                self.check_all_rectangles(Picture([cells[at:at + width] for at in range(0, height * width, width)]))

    def test_frames_in_larger_pictures(self):
        chosen = random.Random(5)
        for lines in larger_lines():
            core = fresh_picture(2, 3)
            picture = picture_of(lines, core)
            top, right, bottom, left = widths_of(lines)
            self.assertEqual(Frame.around(picture, top, left, 2, 3), Frame(lines))
            self.assertEqual(Frame.around(picture, row=top, column=left, height=2, width=3), Frame(lines))
            self.assertEqual(Frame.around(picture, 0, 0, picture.height, picture.width), Frame([]))
            # One cell of the frame is changed to a colour that is nowhere else.
            rows = [list(row) for row in picture.rows]
            places = [
                (row, column) for row in range(picture.height) for column in range(picture.width)
                if not (top <= row < top + 2 and left <= column < left + 3)
            ]
            for row, column in chosen.sample(places, 4):
                changed = [list(cells) for cells in rows]
                changed[row][column] = 777
                self.assertIsNone(Frame.around(Picture(changed), top, left, 2, 3))

    def test_one_corner_shows_the_order(self):
        # Each line hides the end of the next one, in a circle, so that none can have been the last.
        picture = Picture([[4, 1, 1], [4, 0, 2], [3, 3, 2]])
        self.assertIsNone(Frame.around(picture, 1, 1, 1, 1))
        self.assertIsNotNone(Frame.around(Picture([[4, 1, 2], [4, 0, 2], [4, 3, 2]]), 1, 1, 1, 1))

    def test_corner_of_a_third_colour(self):
        self.assertIsNone(Frame.around(Picture([[9, 7], [8, 1]]), 1, 1, 1, 1))

    def test_more_than_two_hundred_lines(self):
        picture = Picture.filled(130, 120, 3)
        frame = Frame.around(picture, 60, 50, 1, 2)
        self.assertEqual(frame.widths, (60, 68, 69, 50))
        self.assertEqual(len(frame), 247)
        self.assertEqual(frame.enclose(Picture.filled(1, 2, 3)), picture)
        self.assertEqual(frame.colour(-60, 68), 3)

    def test_no_rectangles(self):
        picture = fresh_picture(2, 3)
        for values in itertools.product((-1, 0, 1, 2, 3), (-1, 0, 1, 2, 3, 4), (-1, 0, 1, 2, 3), (-1, 0, 1, 2, 3, 4)):
            row, column, height, width = values
            fits = row >= 0 and column >= 0 and height >= 1 and width >= 1 and row + height <= 2 and column + width <= 3
            if fits:
                Frame.around(picture, *values)
            else:
                self.assert_raises(OutOfRange, {"value": values}, Frame.around, picture, *values)
        self.assert_raises(OutOfRange, {"value": (0, 0, 10 ** 99, 1)}, Frame.around, picture, 0, 0, 10 ** 99, 1)

    def test_values_that_are_no_integers(self):
        picture = fresh_picture(2, 3)
        for place in range(4):
            for value in NO_PLACES:
                values = [1, 1, 1, 1]
                values[place] = value
                with self.assertRaises(OutOfRange) as caught:
                    Frame.around(picture, *values)
                self.assertIs(type(caught.exception.value), tuple)
                for held, given in zip(caught.exception.value, values, strict=True):
                    self.assertIs(held, given)

    def test_no_pictures(self):
        for value in NO_PICTURES:
            self.assert_raises(InvalidPicture, {"value": value}, Frame.around, value, 0, 0, 1, 1)
            self.assert_raises(InvalidPicture, {"value": value}, Frame.around, value, None, 0, -1, 0)


class TestRenaming(RaisingCase):

    def test_colours(self):
        names = {0: 10 ** 50, 1: 0, 2: 1, 3: 5, 4: 2}
        for lines in larger_lines():
            if any(colour > 4 for _, colour in lines):
                continue
            renamed = [(side, names[colour]) for side, colour in lines]
            self.assertEqual(Frame(renamed).peelable(), Frame(lines).peelable())
            self.assertEqual(Frame(renamed).widths, Frame(lines).widths)
            order = [(side, names[colour]) for side, colour in Frame(lines).order()]
            self.assertEqual(Frame(renamed), Frame(order))
            if len(lines) <= 40:
                self.assertEqual(Frame(renamed).count_orders(), Frame(lines).count_orders())
