"""The fewest steps from one picture to another.

Either a part of the goal comes from the start, and its other lines are added around that part; or nothing does, when
all rows or all columns of the start are cut off. In both cases the line that was added last can be peeled off the
goal. So what can be left of the goal after peeling is all that may come from the start, or have been the first line.
"""

from pictureframes.effects import Effect
from pictureframes.parts import all_margins, check_cells, frame_around, rows_within
from pictureframes.pictures import check_picture
from pictureframes.shortening import adding_steps, shortest
from pictureframes.symmetries import Symmetry, moved_rows

MOST_CELLS = 100


def distance(start, goal):
    """Return the least number of steps that turn the picture start into the picture goal, or None."""
    steps = plan(start, goal)
    if steps is None:
        return None
    return len(steps)


def plan(start, goal):
    """Return a shortest sequence that turns the picture start into the picture goal, or None if there is none."""
    check_picture(start)
    check_picture(goal)
    check_cells(start, MOST_CELLS)
    check_cells(goal, MOST_CELLS)
    left = _margins_after_peeling(goal)
    ways = _ways_with_a_core(start, goal, left) + _ways_with_a_new_line(start, goal, left)
    if len(ways) == 0:
        return None
    return min(ways, key=len)


def _margins_after_peeling(goal):
    """Return the margins of all parts that can be left of the goal when lines are peeled off."""
    found = {}
    waiting = [(0, 0, 0, 0)]
    while waiting:
        margins = waiting.pop()
        if margins not in found:
            found[margins] = True
            waiting.extend(_margins_after_one_more(rows_within(goal, margins), margins))
    return list(found)


def _margins_after_one_more(rows, margins):
    """Return the margins that follow when one more line is peeled off a part with these rows."""
    top, right, bottom, left = margins
    following = []
    if len(rows) > 1:
        if _has_one_colour(rows[0]):
            following.append((top + 1, right, bottom, left))
        if _has_one_colour(rows[-1]):
            following.append((top, right, bottom + 1, left))
    if len(rows[0]) > 1:
        if _has_one_colour([row[-1] for row in rows]):
            following.append((top, right + 1, bottom, left))
        if _has_one_colour([row[0] for row in rows]):
            following.append((top, right, bottom, left + 1))
    return following


def _has_one_colour(cells):
    """Tell whether all cells have one colour."""
    return cells.count(cells[0]) == len(cells)


def _ways_with_a_core(start, goal, left):
    """Return a list of one shortest sequence that keeps a part of the start, of none if there is no such sequence."""
    widths_by_core = {rows_within(goal, widths): widths for widths in left}
    best = None
    least = 0
    for symmetry in Symmetry.every():
        turning = len(symmetry.steps())
        for lost in all_margins(start):
            core = moved_rows(rows_within(start, lost), symmetry)
            if core not in widths_by_core:
                continue
            widths = widths_by_core[core]
            length = sum(lost) + turning + sum(widths)
            if best is None or length < least:
                best = (symmetry, lost, widths)
                least = length
    if best is None:
        return []
    symmetry, lost, widths = best
    return [shortest(Effect(symmetry, lost, frame_around(goal, widths)))]


def _ways_with_a_new_line(start, goal, left):
    """Return sequences that keep nothing of the start, with a shortest one of these; none if there is none."""
    ways = []
    for upright in (True, False):
        line = _longest_line(goal, left, upright)
        if line is None:
            continue
        length, margins = line
        colour = goal.rows[margins[0]][margins[3]]
        around = adding_steps(frame_around(goal, margins))
        ways.append(_to_line(start.height, start.width, upright, length, colour) + around)
        # A turn at first may save more steps, as lines of the start that lie along the new one need not be cut off.
        ways.append([("turn",)] + _to_line(start.width, start.height, upright, length, colour) + around)
    return ways


def _longest_line(goal, left, upright):
    """Return the longest column, if upright, or row of one colour that can be left, as (length, margins), or None."""
    best = None
    for margins in left:
        rows = rows_within(goal, margins)
        line = [row[0] for row in rows] if upright else rows[0]
        # A part is no line if it has more cells than those.
        if len(line) < len(rows) * len(rows[0]) or not _has_one_colour(line):
            continue
        if best is None or len(line) > best[0]:
            best = (len(line), margins)
    return best


def _to_line(height, width, upright, length, colour):
    """Return the steps from any picture of this size to a column, if upright, or row of this length and colour."""
    if upright:
        return _to_length("top", height, length, colour) + [("add", "left", colour)] + [("cut", "right")] * width
    return _to_length("left", width, length, colour) + [("add", "top", colour)] + [("cut", "bottom")] * height


def _to_length(side, before, length, colour):
    """Return the steps that cut off lines at a side, or add lines there, until so many are left."""
    if before > length:
        return [("cut", side)] * (before - length)
    return [("add", side, colour)] * (length - before)
