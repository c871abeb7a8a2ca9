"""Calculating with effects: compositions, powers, and how effects are undone and told apart."""

from pictureframes.checks import SIDES, check_count
from pictureframes.effects import Effect, check_effect, composition
from pictureframes.errors import LimitExceeded
from pictureframes.frames import MOST_LINES
from pictureframes.pictures import Picture

MOST_LOST = 1000


def compose(*effects):
    """Return the composition of the effects, the first one first."""
    for effect in effects:
        check_effect(effect)
    result = Effect.identity()
    for effect in effects:
        result = result.then(effect)
    return result


def power(effect, count):
    """Return the composition of so many copies."""
    check_effect(effect)
    check_count(count)
    result = Effect.identity()
    # Only exponents up to this one are passed, and no power has a frame with more lines than a higher power.
    for place in reversed(range(count.bit_length())):
        result = composition(result, result)
        if (count >> place) & 1:
            result = composition(result, effect)
        if len(result.frame) > MOST_LINES:
            raise LimitExceeded(MOST_LINES)
    return result


def commute(one, other):
    """Return whether both orders have the same composition."""
    check_effect(one)
    check_effect(other)
    return composition(one, other) == composition(other, one)


def is_idempotent(effect):
    """Return whether running it twice is the same as running it once."""
    check_effect(effect)
    return composition(effect, effect) == effect


def undo(effect):
    """Return a shortest list of steps whose effect after this one is the identity, or None if there is none."""
    check_effect(effect)
    if effect.lost != (0, 0, 0, 0):
        return None
    cuts = [("cut", side) for side, width in zip(SIDES, effect.frame.widths) for _ in range(width)]
    return cuts + effect.symmetry.inverse().steps()


def separating_picture(one, other):
    """Return None if the effects are equal, otherwise a picture that is large enough for both and tells them apart."""
    check_effect(one)
    check_effect(other)
    if one == other:
        return None
    height = max(one.smallest[0], other.smallest[0])
    width = max(one.smallest[1], other.smallest[1])
    most = max(height, width) - 1
    if most > MOST_LOST:
        raise LimitExceeded(most)
    # Both cores then have two rows and two columns or more, and all their cells are unlike. Where a frame lay over a
    # part of the other's core, its latest line there would give two of those cells one colour. So equal results would
    # have the same core, turned alike, and the same frame.
    return Picture.numbered(height + 1, width + 1)
