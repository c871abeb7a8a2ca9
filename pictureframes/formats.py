"""Texts for pictures, sequences and effects.

What reads a part of a text returns None if the part is wrong, as the error names the whole text.
"""

from pictureframes.checks import is_side
from pictureframes.effects import Effect, check_effect
from pictureframes.errors import ParseError
from pictureframes.frames import frame_of
from pictureframes.pictures import Picture, check_picture
from pictureframes.running import MOST_STEPS, check_steps
from pictureframes.symmetries import Symmetry

NOTHING = "-"
BETWEEN_ROWS = " / "
BETWEEN_STEPS = "; "
BETWEEN_PARTS = " | "


def format_picture(picture):
    """Return the text of a picture."""
    check_picture(picture)
    return BETWEEN_ROWS.join([_joined(row) for row in picture.rows])


def format_steps(steps):
    """Return the text of a sequence."""
    check_steps(steps)
    return _listed(steps)


def format_effect(effect):
    """Return the text of an effect."""
    check_effect(effect)
    turning = str(effect.symmetry.turns)
    if effect.symmetry.mirrors:
        turning = turning + "m"
    return BETWEEN_PARTS.join([turning, _joined(effect.lost), _listed(effect.frame.order())])


def parse_picture(text):
    """Return the picture that has this text."""
    _check_text(text)
    rows = [_numbers(part) for part in text.split(BETWEEN_ROWS)]
    if None in rows or any([len(row) != len(rows[0]) for row in rows]):
        raise ParseError(text)
    return Picture(rows)


def parse_steps(text):
    """Return the sequence that has this text, as a list."""
    _check_text(text)
    if text == NOTHING:
        return []
    steps = [_step(part) for part in text.split(BETWEEN_STEPS)]
    if None in steps or len(steps) > MOST_STEPS:
        raise ParseError(text)
    return steps


def parse_effect(text):
    """Return the effect that has this text; the lines may stand in any order of the frame."""
    _check_text(text)
    parts = text.split(BETWEEN_PARTS)
    if len(parts) != 3:
        raise ParseError(text)
    symmetry = _symmetry(parts[0])
    lost = _numbers(parts[1])
    lines = _lines(parts[2])
    if symmetry is None or lost is None or len(lost) != 4 or lines is None:
        raise ParseError(text)
    # A frame may have more lines than one that is made from a list.
    return Effect(symmetry, tuple(lost), frame_of(lines))


def _joined(words):
    """Return the text of words or numbers with single spaces between them."""
    return " ".join([str(word) for word in words])


def _listed(items):
    """Return the text of steps or lines."""
    if len(items) == 0:
        return NOTHING
    return BETWEEN_STEPS.join([_joined(item) for item in items])


def _check_text(value):
    """Raise ParseError for a value that is no text."""
    if not isinstance(value, str):
        raise ParseError(value)


def _number(word):
    """Return the integer that has this text, or None."""
    if not word.isascii() or not word.isdigit():
        return None
    if word[0] == "0" and len(word) > 1:
        return None
    return int(word)


def _numbers(part):
    """Return the list of the integers with single spaces between them, or None."""
    numbers = [_number(word) for word in part.split(" ")]
    if None in numbers:
        return None
    return numbers


def _step(part):
    """Return the step that has this text, or None."""
    words = part.split(" ")
    if part == "turn" or part == "mirror":
        return (part,)
    if len(words) == 2 and words[0] == "cut" and is_side(words[1]):
        return ("cut", words[1])
    if len(words) == 3 and words[0] == "add":
        line = _line(words[1:])
        if line is not None:
            return ("add", line[0], line[1])
    return None


def _line(words):
    """Return the line (side, colour) that these two words tell, or None."""
    colour = _number(words[1])
    if not is_side(words[0]) or colour is None:
        return None
    return (words[0], colour)


def _lines(part):
    """Return the list of the lines that have this text, or None."""
    if part == NOTHING:
        return []
    words = [line.split(" ") for line in part.split(BETWEEN_STEPS)]
    if any([len(pair) != 2 for pair in words]):
        return None
    lines = [_line(pair) for pair in words]
    if None in lines:
        return None
    return lines


def _symmetry(part):
    """Return the symmetry that has this text, or None."""
    mirrors = part.endswith("m")
    turns = part[:-1] if mirrors else part
    if turns not in ("0", "1", "2", "3"):
        return None
    return Symmetry(int(turns), mirrors)
