"""Pictures: grids of colours.

The functions over rows take and return tuples of tuples that are known to be valid, so that a sequence of
many steps need not check every cell after each step.
"""

from pictureframes.checks import check_colour, check_length, check_side, is_colour, is_count
from pictureframes.errors import InvalidPicture, LastLine, OutOfRange


def turned_rows(rows):
    """Return the rows after a quarter turn to the right."""
    upwards = rows[::-1]
    return tuple(zip(*upwards))


def mirrored_rows(rows):
    """Return the rows with left and right exchanged."""
    return tuple([row[::-1] for row in rows])


def is_last_line(rows, side):
    """Tell whether the outermost line at the side is the only row or column."""
    if side in ("top", "bottom"):
        return len(rows) == 1
    return len(rows[0]) == 1


def cut_rows(rows, side):
    """Return the rows without the outermost line at the side, which is not the only one."""
    if side == "top":
        return rows[1:]
    if side == "bottom":
        return rows[:-1]
    if side == "left":
        return tuple([row[1:] for row in rows])
    return tuple([row[:-1] for row in rows])


def added_rows(rows, side, colour):
    """Return the rows with a line of this colour along the whole side."""
    if side == "left":
        return tuple([(colour,) + row for row in rows])
    if side == "right":
        return tuple([row + (colour,) for row in rows])
    line = (colour,) * len(rows[0])
    if side == "top":
        return (line,) + rows
    return rows + (line,)


def check_picture(picture):
    """Raise InvalidPicture for a value that is no picture."""
    if not isinstance(picture, Picture):
        raise InvalidPicture(picture)


def _is_row(value):
    """Tell whether a value is a list or tuple of colours, at least one."""
    if not isinstance(value, (list, tuple)) or len(value) == 0:
        return False
    return all([is_colour(cell) for cell in value])


def _is_grid(value):
    """Tell whether a value is a list or tuple of equally long rows, at least one."""
    if not isinstance(value, (list, tuple)) or len(value) == 0:
        return False
    if not all([_is_row(row) for row in value]):
        return False
    return all([len(row) == len(value[0]) for row in value])


class Picture:
    """A grid of colours with at least one row and one column, which never changes."""

    def __init__(self, rows):
        if not _is_grid(rows):
            raise InvalidPicture(rows)
        self._rows = tuple([tuple(row) for row in rows])

    @classmethod
    def filled(cls, height, width, colour):
        """Return a picture of one colour."""
        check_length(height)
        check_length(width)
        check_colour(colour)
        row = (colour,) * width
        return cls((row,) * height)

    @classmethod
    def numbered(cls, height, width, *, first=0):
        """Return a picture whose cells, row by row, have the colours from first on."""
        check_length(height)
        check_length(width)
        check_colour(first)
        starts = [first + row * width for row in range(height)]
        return cls([list(range(start, start + width)) for start in starts])

    @property
    def rows(self):
        """The rows, as a tuple of tuples."""
        return self._rows

    @property
    def height(self):
        """How many rows there are."""
        return len(self._rows)

    @property
    def width(self):
        """How many columns there are."""
        return len(self._rows[0])

    def __getitem__(self, at):
        row, column = at
        if not is_count(row) or not is_count(column):
            raise OutOfRange((row, column))
        if row >= self.height or column >= self.width:
            raise OutOfRange((row, column))
        return self._rows[row][column]

    def __iter__(self):
        raise TypeError("a picture is not iterated over; its rows are")

    def __contains__(self, colour):
        return any([colour in row for row in self._rows])

    def line(self, side):
        """Return the colours of the outermost line at the side, from left to right or from top to bottom."""
        check_side(side)
        if side == "top":
            return self._rows[0]
        if side == "bottom":
            return self._rows[-1]
        if side == "left":
            return tuple([row[0] for row in self._rows])
        return tuple([row[-1] for row in self._rows])

    def turned(self):
        """Return the picture turned a quarter to the right."""
        return Picture(turned_rows(self._rows))

    def mirrored(self):
        """Return the picture with left and right exchanged."""
        return Picture(mirrored_rows(self._rows))

    def cut(self, side):
        """Return the picture without its outermost line at the side."""
        check_side(side)
        if is_last_line(self._rows, side):
            raise LastLine(0)
        return Picture(cut_rows(self._rows, side))

    def added(self, side, colour):
        """Return the picture with a line of this colour more along the whole side."""
        check_side(side)
        check_colour(colour)
        return Picture(added_rows(self._rows, side, colour))

    def __eq__(self, other):
        return isinstance(other, Picture) and self._rows == other._rows

    def __repr__(self):
        return f"Picture({self._rows!r})"
