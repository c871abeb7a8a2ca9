"""Frames: lines that are added around a core.

A frame keeps its least order, as a tuple. Frames with the same colours at the same places have the same orders, so
the least one tells them apart; and the colour of a corner is that of whichever of its two lines stands later there.
"""

from pictureframes.checks import SIDES, check_side, is_colour, is_count, is_side, is_whole
from pictureframes.errors import InvalidFrame, LimitExceeded, OutOfRange
from pictureframes.pictures import Picture, check_picture
from pictureframes.symmetries import check_symmetry

MOST_LINES = 200
MOST_LISTED = 12
MOST_COUNTED = 40
LEVEL_SIDES = ("top", "bottom")
# What is added to the number of a side's outermost row or column to come to the next one, by the order of the sides.
INWARD = (1, -1, -1, 1)


def check_frame(frame):
    """Raise InvalidFrame for a value that is no frame."""
    if not isinstance(frame, Frame):
        raise InvalidFrame(None)


def frame_of(lines):
    """Return the frame of valid lines in the order in which they are added, of however many."""
    frame = Frame(())
    frame._lines = _least_order(lines)
    return frame


def enclosed_rows(rows, frame):
    """Return the rows with the frame around them."""
    lines = frame.order()
    # From left to right, and below from top to bottom.
    before = _places(lines, "left")[::-1]
    behind = _places(lines, "right")
    left = tuple([lines[place][1] for place in before])
    right = tuple([lines[place][1] for place in behind])
    width = len(rows[0])
    above = [_whole_row(lines, place, before, width, behind) for place in _places(lines, "top")[::-1]]
    below = [_whole_row(lines, place, before, width, behind) for place in _places(lines, "bottom")]
    middle = [left + row + right for row in rows]
    return tuple(above + middle + below)


def _whole_row(lines, place, before, width, behind):
    """Return the colours of a line at the top or bottom, with the corners, beside a core of this width."""
    left = [lines[max(place, other)][1] for other in before]
    right = [lines[max(place, other)][1] for other in behind]
    return tuple(left + [lines[place][1]] * width + right)


def _is_line(value):
    """Tell whether a value is a line of a frame."""
    return isinstance(value, tuple) and len(value) == 2 and is_side(value[0]) and is_colour(value[1])


def _check_lines(lines):
    """Raise InvalidFrame for a value that is no list or tuple of at most 200 lines."""
    if not isinstance(lines, (list, tuple)) or len(lines) > MOST_LINES:
        raise InvalidFrame(None)
    for index, line in enumerate(lines):
        if not _is_line(line):
            raise InvalidFrame(index)


def _places(lines, side):
    """Return the indexes of the lines on this side, from the inside."""
    return [place for place, line in enumerate(lines) if line[0] == side]


def _cross(side, other):
    """Tell whether lines on these sides have a corner in common."""
    return (side in LEVEL_SIDES) != (other in LEVEL_SIDES)


def _number_of_last_unlike(colours, colour):
    """Return the number of the last one of these colours that is not this one, 0 if there is none."""
    number = len(colours)
    while number > 0 and colours[number - 1] == colour:
        number -= 1
    return number


def _waiting_lines(lines):
    """Return for each side, in their order, its lines from the inside, each as (line, needs).

    The needs are how many lines of the four sides come before this one in every order: on a neighbouring side those
    up to the last one that has another colour. Where both lines of a corner have one colour, either may be later.
    """
    colours = [[], [], [], []]
    waiting = [[], [], [], []]
    for side, colour in lines:
        here = SIDES.index(side)
        needs = [0, 0, 0, 0]
        for neighbour in ((here + 1) % 4, (here + 3) % 4):
            needs[neighbour] = _number_of_last_unlike(colours[neighbour], colour)
        colours[here].append(colour)
        waiting[here].append(((side, colour), needs))
    return waiting


def _next_lines(waiting, placed):
    """Return what may come when so many lines of each side are there, ascending, each as (line, placed after it)."""
    following = []
    for here, queue in enumerate(waiting):
        if placed[here] == len(queue):
            continue
        line, needs = queue[placed[here]]
        if all([need <= there for need, there in zip(needs, placed)]):
            following.append((line, (*placed[:here], placed[here] + 1, *placed[here + 1:])))
    return following


def _least_order(lines):
    """Return the least order, as a tuple, of the frame of these lines in the order in which they are added."""
    waiting = _waiting_lines(lines)
    placed = (0, 0, 0, 0)
    order = []
    for _ in range(len(lines)):
        line, placed = _next_lines(waiting, placed)[0]
        order.append(line)
    return tuple(order)


def _ways(lines):
    """Return a dict from all numbers of lines on the four sides to which orders come, to what may come then.

    The keys stand in it by how many lines these are together.
    """
    waiting = _waiting_lines(lines)
    ways = {}
    reached = [(0, 0, 0, 0)]
    while reached:
        further = {}
        for placed in reached:
            ways[placed] = _next_lines(waiting, placed)
            for _, after in ways[placed]:
                further[after] = True
        reached = list(further)
    return ways


def _is_rectangle(picture, row, column, height, width):
    """Tell whether these values make a rectangle of at least one cell within the picture."""
    if not all([is_count(value) for value in (row, column, height, width)]):
        return False
    if height == 0 or width == 0:
        return False
    return row + height <= picture.height and column + width <= picture.width


def _outermost_line(rows, columns, edges, side):
    """Return the outermost line at a side of the part within these edges, which are as in _lines_around."""
    top, right, bottom, left = edges
    if side == "top":
        return rows[top][left:right + 1]
    if side == "bottom":
        return rows[bottom][left:right + 1]
    if side == "left":
        return columns[left][top:bottom + 1]
    return columns[right][top:bottom + 1]


def _lines_around(rows, core):
    """Return an order of the frame around the core, or None if there is none.

    The core is a list: its first row, last column, last row and first column. The lines are peeled off from the
    outside, in any order: no peeling makes another line impossible to peel.
    """
    columns = tuple(zip(*rows))
    edges = [0, len(columns) - 1, len(rows) - 1, 0]
    peeled = []
    while edges != core:
        before = len(peeled)
        for here, side in enumerate(SIDES):
            if edges[here] == core[here]:
                continue
            line = _outermost_line(rows, columns, edges, side)
            if line.count(line[0]) == len(line):
                peeled.append((side, line[0]))
                edges[here] += INWARD[here]
        if len(peeled) == before:
            return None
    return peeled[::-1]


class Frame:
    """Lines that are added around a core, which never change."""

    def __init__(self, lines):
        _check_lines(lines)
        self._lines = _least_order(lines)

    @staticmethod
    def around(picture, row, column, height, width):
        """Return the frame that a picture has around a rectangle of its cells, or None if there is none."""
        check_picture(picture)
        if not _is_rectangle(picture, row, column, height, width):
            raise OutOfRange((row, column, height, width))
        lines = _lines_around(picture.rows, [row, column + width - 1, row + height - 1, column])
        if lines is None:
            return None
        return frame_of(lines)

    @property
    def widths(self):
        """How many lines there are at the top, right, bottom and left."""
        return tuple([len(_places(self._lines, side)) for side in SIDES])

    def colours(self, side):
        """Return the list of the colours of the lines on this side, from the inside."""
        check_side(side)
        return [self._lines[place][1] for place in _places(self._lines, side)]

    def colour(self, row, column):
        """Return the colour at a place."""
        if not is_whole(row) or not is_whole(column) or (row, column) == (0, 0):
            raise OutOfRange((row, column))
        crossing = []
        for number, back, forth in ((row, "top", "bottom"), (column, "left", "right")):
            places = _places(self._lines, back if number < 0 else forth)
            if abs(number) > len(places):
                raise OutOfRange((row, column))
            if number != 0:
                crossing.append(places[abs(number) - 1])
        return self._lines[max(crossing)][1]

    def order(self):
        """Return the least order."""
        return list(self._lines)

    def orders(self):
        """Yield all orders, ascending."""
        if len(self._lines) > MOST_LISTED:
            raise LimitExceeded(len(self._lines))
        ways = _ways(self._lines)
        begun = [([], (0, 0, 0, 0))]
        while begun:
            order, placed = begun.pop()
            if len(order) == len(self._lines):
                yield order
            # The least continuation comes to the end, which is taken up next.
            for line, after in ways[placed][::-1]:
                begun.append((order + [line], after))

    def count_orders(self):
        """Return how many orders there are."""
        if len(self._lines) > MOST_COUNTED:
            raise LimitExceeded(len(self._lines))
        ways = _ways(self._lines)
        counts = {placed: 0 for placed in ways}
        counts[(0, 0, 0, 0)] = 1
        for placed, following in ways.items():
            for _, after in following:
                counts[after] += counts[placed]
        return counts[self.widths]

    def peelable(self):
        """Return the list of the sides, in their order, whose outermost line can be peeled."""
        return [side for side in SIDES if self._is_peelable(side)]

    def cut(self, side):
        """Return the frame without the outermost line at the side, whether it can be peeled or not."""
        check_side(side)
        places = _places(self._lines, side)
        if len(places) == 0:
            raise OutOfRange(side)
        return frame_of(self._lines[:places[-1]] + self._lines[places[-1] + 1:])

    def moved(self, symmetry):
        """Return the frame mirrored and turned."""
        check_symmetry(symmetry)
        return frame_of([(symmetry.side(side), colour) for side, colour in self._lines])

    def enclose(self, picture):
        """Return the picture with the frame around it."""
        check_picture(picture)
        return Picture(enclosed_rows(picture.rows, self))

    def _is_peelable(self, side):
        """Tell whether there is an outermost line on this side, and all its places have one colour."""
        places = _places(self._lines, side)
        if len(places) == 0:
            return False
        colour = self._lines[places[-1]][1]
        over = [line[1] for line in self._lines[places[-1] + 1:] if _cross(line[0], side)]
        return over.count(colour) == len(over)

    def __eq__(self, other):
        return isinstance(other, Frame) and self._lines == other._lines

    def __len__(self):
        return len(self._lines)

    def __repr__(self):
        return f"Frame({list(self._lines)!r})"
