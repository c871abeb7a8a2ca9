"""Frames with wanted colours at wanted places.

A frame needs a line for each wanted row and column, and for those further inside; lines beyond these may be cut off
without harm. The line that is added last shows its colour at all its places. Where all wishes at a side's outermost
line agree, this line can be added last in any frame that fulfils the wishes, whatever was last before. So lines are
peeled off as long as there is one like that, and no choice among them is wrong.
"""

from pictureframes.checks import SIDES, is_colour, is_whole
from pictureframes.errors import InvalidWishes
from pictureframes.frames import Frame

MOST_WISHES = 200
FARTHEST = 30
# For each side, which number of a place tells the line there, and what it is multiplied with.
DIRECTIONS = {"top": (0, -1), "right": (1, 1), "bottom": (0, 1), "left": (1, -1)}
ANY_COLOUR = 0


def paint(wishes):
    """Return a frame with the wanted colours at the wanted places and as few lines as possible, or None."""
    _check_wishes(wishes)
    wanted = {(row, column): colour for row, column, colour in wishes}
    widths = {side: _needed_width(wishes, side) for side in SIDES}
    peeled = []
    while sum(list(widths.values())) > 0:
        side = _side_to_peel(wanted, widths)
        if side is None:
            return None
        places = _wanted_places(wanted, side, widths[side])
        peeled.append((side, wanted[places[0]] if places else ANY_COLOUR))
        wanted = {place: wanted[place] for place in wanted if place not in places}
        widths[side] -= 1
    return Frame(peeled[::-1])


def _check_wishes(wishes):
    """Raise InvalidWishes for a value that is no list of at most 200 wishes for unlike places."""
    if not isinstance(wishes, list) or len(wishes) > MOST_WISHES:
        raise InvalidWishes(None)
    earlier = {}
    for index, wish in enumerate(wishes):
        if not _is_wish(wish) or (wish[0], wish[1]) in earlier:
            raise InvalidWishes(index)
        earlier[(wish[0], wish[1])] = True


def _is_wish(value):
    """Tell whether a value is a tuple (row, column, colour) that may be a wish."""
    if not isinstance(value, tuple) or len(value) != 3:
        return False
    row, column, colour = value
    if not _is_near(row) or not _is_near(column) or (row, column) == (0, 0):
        return False
    return is_colour(colour)


def _is_near(value):
    """Tell whether a value is an integer from -30 to 30."""
    return is_whole(value) and abs(value) <= FARTHEST


def _needed_width(wishes, side):
    """Return the number of the outermost line on a side with a wish."""
    axis, sign = DIRECTIONS[side]
    return max([sign * wish[axis] for wish in wishes] + [0])


def _wanted_places(wanted, side, number):
    """Return the list of the places with a wish on the line with this number on a side."""
    axis, sign = DIRECTIONS[side]
    return [place for place in wanted if place[axis] == sign * number]


def _side_to_peel(wanted, widths):
    """Return the first side whose outermost line may be the last one that is added, or None if there is none."""
    for side in SIDES:
        if widths[side] > 0:
            places = _wanted_places(wanted, side, widths[side])
            if all([wanted[place] == wanted[places[0]] for place in places]):
                return side
    return None
