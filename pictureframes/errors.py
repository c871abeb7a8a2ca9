"""The errors of this package.

Each keeps the values that it was made from under the names of its fields. None of them puts a message
together: a value may be any object, also one that cannot be shown.
"""


class PictureError(ValueError):
    """The base class of the errors for arguments, names, commands and texts that are invalid."""


class InvalidColour(PictureError):
    """A colour was required, an integer of at least 0."""

    def __init__(self, value):
        self.value = value


class InvalidSide(PictureError):
    """A side was required: top, right, bottom or left."""

    def __init__(self, value):
        self.value = value


class InvalidPicture(PictureError):
    """A picture, or the rows of one, was required."""

    def __init__(self, value):
        self.value = value


class InvalidSequence(PictureError):
    """A sequence was required; index is that of its first wrong step, or None."""

    def __init__(self, index):
        self.index = index


class InvalidSymmetry(PictureError):
    """A symmetry, or a part of one, was required."""

    def __init__(self, value):
        self.value = value


class InvalidFrame(PictureError):
    """A frame was required; index is that of its first wrong line, or None."""

    def __init__(self, index):
        self.index = index


class InvalidEffect(PictureError):
    """An effect, or a part of one, was required."""

    def __init__(self, value):
        self.value = value


class InvalidCount(PictureError):
    """A count, or a height or width of at least 1, was required."""

    def __init__(self, value):
        self.value = value


class InvalidWishes(PictureError):
    """Wishes were required; index is that of the first wrong one, or None."""

    def __init__(self, index):
        self.index = index


class InvalidName(PictureError):
    """A name or a user was required."""

    def __init__(self, value):
        self.value = value


class InvalidCommand(PictureError):
    """A command was required."""

    def __init__(self, word):
        self.word = word


class ParseError(PictureError):
    """There is no value that has this text."""

    def __init__(self, text):
        self.text = text


class LastLine(RuntimeError):
    """The step with this index cuts off the only row or column."""

    def __init__(self, index):
        self.index = index


class TooSmall(LookupError):
    """A picture is smaller than the least size."""

    def __init__(self, least_height, least_width):
        self.least_height = least_height
        self.least_width = least_width


class OutOfRange(IndexError):
    """There is nothing at this place."""

    def __init__(self, value):
        self.value = value


class LimitExceeded(OverflowError):
    """More was asked for than the limit allows; count tells how much that is."""

    def __init__(self, count):
        self.count = count


class UnknownName(KeyError):
    """No picture has this name."""

    def __init__(self, name):
        self.name = name


class NothingToUndo(RuntimeError):
    """This user has no entry that could be undone."""
