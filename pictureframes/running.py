"""Steps and sequences, and what they do to one picture."""

from pictureframes.checks import is_colour, is_side
from pictureframes.errors import InvalidSequence, LastLine
from pictureframes.pictures import (
    Picture, added_rows, check_picture, cut_rows, is_last_line, mirrored_rows, turned_rows,
)

MOST_STEPS = 200


def check_steps(steps):
    """Raise InvalidSequence for a value that is no list or tuple of at most 200 steps."""
    if not isinstance(steps, (list, tuple)) or len(steps) > MOST_STEPS:
        raise InvalidSequence(None)
    for index, step in enumerate(steps):
        if not _is_step(step):
            raise InvalidSequence(index)


def run(picture, steps):
    """Return the picture after the sequence."""
    check_picture(picture)
    check_steps(steps)
    rows = picture.rows
    for index, step in enumerate(steps):
        rows = _rows_after(rows, step, index)
    return Picture(rows)


def pictures_along(picture, steps):
    """Yield the picture before the first step and after each."""
    check_picture(picture)
    check_steps(steps)
    # The caller may change the list between two items.
    kept = tuple(steps)
    rows = picture.rows
    yield picture
    for index, step in enumerate(kept):
        rows = _rows_after(rows, step, index)
        yield Picture(rows)


def _is_step(value):
    """Tell whether a value is a step."""
    if not isinstance(value, tuple) or len(value) == 0:
        return False
    word = value[0]
    if word in ("turn", "mirror"):
        return len(value) == 1
    if word == "cut":
        return len(value) == 2 and is_side(value[1])
    if word == "add":
        return len(value) == 3 and is_side(value[1]) and is_colour(value[2])
    return False


def _rows_after(rows, step, index):
    """Return the rows after a step, whose index is named where it fails."""
    word = step[0]
    if word == "turn":
        return turned_rows(rows)
    if word == "mirror":
        return mirrored_rows(rows)
    side = step[1]
    if word == "add":
        return added_rows(rows, side, step[2])
    if is_last_line(rows, side):
        raise LastLine(index)
    return cut_rows(rows, side)
