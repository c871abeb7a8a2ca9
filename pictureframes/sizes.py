"""What sequences do to small pictures, size by size.

Rows and columns do not touch each other: which lines are left above and below depends on the height alone, and which
at the left and right on the width alone. So both are followed apart, on the picture as if it were never turned.
"""

from pictureframes.algebra import separating_picture
from pictureframes.checks import check_length
from pictureframes.effects import Effect, upright_moves
from pictureframes.errors import LastLine, LimitExceeded
from pictureframes.pictures import Picture
from pictureframes.running import check_steps
from pictureframes.symmetries import moved_rows

MOST_ROWS = 1000
# The number of the sides' direction in a size.
DIRECTIONS = {"top": 0, "bottom": 0, "right": 1, "left": 1}
# A row or column of the original, as a pair (index, colour) of a line that was there before all others.
ORIGINAL = (-1, 0)


def outcome(steps, height, width):
    """Return the picture that results from every picture of this size, or None if some of the original is left."""
    check_steps(steps)
    check_length(height)
    check_length(width)
    symmetry, moves = upright_moves(steps)
    _check_no_failure(moves, height, width)
    rows = _lines_left(moves, "top", "bottom", height)
    columns = _lines_left(moves, "left", "right", width)
    if rows[1] > 0 and columns[1] > 0:
        return None
    most = max(_number_of_lines(rows), _number_of_lines(columns))
    if most > MOST_ROWS:
        raise LimitExceeded(most)
    return Picture(moved_rows(_colours_where_crossing(rows, columns), symmetry))


def act_alike(one_steps, other_steps):
    """Return whether two sequences act alike on all pictures, also on small ones."""
    return differing_picture(one_steps, other_steps) is None


def differing_picture(one_steps, other_steps):
    """Return a picture on which one of them fails or their results differ; None if they act alike."""
    check_steps(one_steps)
    check_steps(other_steps)
    one_size = running_size(one_steps)
    other_size = running_size(other_steps)
    if one_size != other_size:
        height, width = _size_for_one(one_size, other_size)
        return Picture.filled(height, width, 0)
    one = Effect.of(one_steps)
    other = Effect.of(other_steps)
    if one != other:
        return separating_picture(one, other)
    size = _small_differing_size(one_steps, other_steps, one_size, one.smallest)
    if size is None:
        return None
    # The original is used up, so that its colours do not matter.
    return Picture.filled(size[0], size[1], 0)


def running_size(steps):
    """Return the smallest size on which no step fails, as (height, width)."""
    check_steps(steps)
    _, moves = upright_moves(steps)
    least = [1, 1]
    gained = [0, 0]
    for _, side, colour in moves:
        direction = DIRECTIONS[side]
        if colour is not None:
            gained[direction] += 1
        else:
            # Two lines have to be there, so that one stays.
            least[direction] = max(least[direction], 2 - gained[direction])
            gained[direction] -= 1
    return tuple(least)


def _check_no_failure(moves, height, width):
    """Raise LastLine with the index of the first step that fails on this size."""
    size = [height, width]
    for index, side, colour in moves:
        direction = DIRECTIONS[side]
        if colour is not None:
            size[direction] += 1
        elif size[direction] == 1:
            raise LastLine(index)
        else:
            size[direction] -= 1


def _lines_left(moves, first, last, size):
    """Return what stands between two sides at the end: lines, how many rows or columns of the original, lines.

    The lines are lists of pairs (index of the step that added it, colour), from the first side to the last one. No
    step fails.
    """
    added = {first: [], last: []}
    opposite = {first: last, last: first}
    original = size
    for index, side, colour in moves:
        if side not in added:
            continue
        if colour is not None:
            added[side].append((index, colour))
        elif added[side]:
            added[side].pop()
        elif original > 0:
            original -= 1
        else:
            # Only lines of the opposite side are left, and the innermost one stands here.
            added[opposite[side]].pop(0)
    return added[first][::-1], original, added[last]


def _number_of_lines(left):
    """Return how many rows or columns these are together."""
    before, original, behind = left
    return len(before) + original + len(behind)


def _single_lines(left):
    """Return these rows or columns one by one."""
    before, original, behind = left
    return before + [ORIGINAL] * original + behind


def _colours_where_crossing(rows, columns):
    """Return the colours of the cells: each has that of its row or of its column, whichever was added later."""
    across = _single_lines(columns)
    return tuple([
        tuple([row[1] if row[0] > column[0] else column[1] for column in across])
        for row in _single_lines(rows)
    ])


def _size_for_one(one_size, other_size):
    """Return a size on which a sequence with one of these unlike running sizes fails and the other does not."""
    if one_size[0] == other_size[0]:
        return (one_size[0], min(one_size[1], other_size[1]))
    return (min(one_size[0], other_size[0]), max(one_size[1], other_size[1]))


def _small_differing_size(one_steps, other_steps, least, smallest):
    """Return a size on which the results of two sequences differ, or None if there is none.

    They have equal effects and the same running size, the least one. A size with more rows than the smallest large
    enough one differs from it only in that one row of the original is there several times, and likewise for columns.
    """
    heights = range(least[0], smallest[0] + 1)
    widths = range(least[1], smallest[1] + 1)
    sides = []
    for steps in (one_steps, other_steps):
        _, moves = upright_moves(steps)
        rows = [_lines_left(moves, "top", "bottom", height) for height in heights]
        columns = [_lines_left(moves, "left", "right", width) for width in widths]
        sides.append((rows, columns))
    (one_rows, one_columns), (other_rows, other_columns) = sides
    for down, height in enumerate(heights):
        for along, width in enumerate(widths):
            if (height, width) == smallest:
                continue
            one = _colours_where_crossing(one_rows[down], one_columns[along])
            if one != _colours_where_crossing(other_rows[down], other_columns[along]):
                return (height, width)
    return None
