"""The kinds of values that all files share: integers, counts, colours, sides and lengths."""

from pictureframes.errors import InvalidColour, InvalidCount, InvalidSide

# Their order is that of a quarter turn to the right: each side comes to the next one.
SIDES = ("top", "right", "bottom", "left")


def is_whole(value):
    """Tell whether a value is an integer."""
    # True and False are of the class int, too.
    return isinstance(value, int) and not isinstance(value, bool)


def is_count(value):
    """Tell whether a value is an integer of at least 0."""
    return is_whole(value) and value >= 0


def is_colour(value):
    """Tell whether a value is a colour."""
    return is_count(value)


def is_side(value):
    """Tell whether a value is a side."""
    return isinstance(value, str) and value in SIDES


def check_colour(colour):
    """Raise InvalidColour for a value that is no colour."""
    if not is_colour(colour):
        raise InvalidColour(colour)


def check_side(side):
    """Raise InvalidSide for a value that is no side."""
    if not is_side(side):
        raise InvalidSide(side)


def check_count(count):
    """Raise InvalidCount for a value that is no count."""
    if not is_count(count):
        raise InvalidCount(count)


def check_length(length):
    """Raise InvalidCount for a value that is no height and no width."""
    if not is_count(length) or length == 0:
        raise InvalidCount(length)
