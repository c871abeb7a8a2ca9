"""The kinds of values that all files share: integers, counts, colours, sides, lengths and names."""

from pictureframes.errors import InvalidColour, InvalidCount, InvalidName, InvalidSide

# Their order is that of a quarter turn to the right: each side comes to the next one.
SIDES = ("top", "right", "bottom", "left")
LETTERS = "abcdefghijklmnopqrstuvwxyz"
MOST_LETTERS = 8


def is_whole(value):
    """Tell whether a value is an integer."""
    # True and False are of the class int, too.
    return isinstance(value, int) and not isinstance(value, bool)


def is_count(value):
    """Tell whether a value is an integer of at least 0."""
    return is_whole(value) and value >= 0


def is_colour(value):
    """Tell whether a value is a colour."""
    return is_count(value)


def is_side(value):
    """Tell whether a value is a side."""
    return isinstance(value, str) and value in SIDES


def is_name(value):
    """Tell whether a value is a name: a text of 1 to 8 lowercase letters."""
    if not isinstance(value, str) or len(value) == 0 or len(value) > MOST_LETTERS:
        return False
    return all([letter in LETTERS for letter in value])


def check_colour(colour):
    """Raise InvalidColour for a value that is no colour."""
    if not is_colour(colour):
        raise InvalidColour(colour)


def check_side(side):
    """Raise InvalidSide for a value that is no side."""
    if not is_side(side):
        raise InvalidSide(side)


def check_count(count):
    """Raise InvalidCount for a value that is no count."""
    if not is_count(count):
        raise InvalidCount(count)


def check_length(length):
    """Raise InvalidCount for a value that is no height and no width."""
    if not is_count(length) or length == 0:
        raise InvalidCount(length)


def check_name(name):
    """Raise InvalidName for a value that is no name."""
    if not is_name(name):
        raise InvalidName(name)
