"""Shortest sequences, and lines that are added and cut off again."""

from pictureframes.checks import SIDES
from pictureframes.effects import check_effect, upright_moves
from pictureframes.errors import LimitExceeded
from pictureframes.running import check_steps

MOST_RETURNED = 10000


def shortest(effect):
    """Return a shortest sequence with this effect: its cuts, the steps of its symmetry, and the lines of its frame."""
    length = shortest_length(effect)
    if length > MOST_RETURNED:
        raise LimitExceeded(length)
    cuts = [("cut", side) for side, many in zip(SIDES, effect.lost) for _ in range(many)]
    return cuts + effect.symmetry.steps() + adding_steps(effect.frame)


def shortest_length(effect):
    """Return how many steps a shortest sequence with this effect has."""
    check_effect(effect)
    # A cut takes one line of the core at most, and no other step than turns and mirrorings changes the symmetry.
    return sum(effect.lost) + len(effect.symmetry.steps()) + len(effect.frame)


def hidden_pairs(steps):
    """Return the pairs (add, cut) of the steps that add a line and cut it off again, ascending by their indexes."""
    check_steps(steps)
    _, moves = upright_moves(steps)
    adding = {side: [] for side in SIDES}
    pairs = []
    for index, side, colour in moves:
        if colour is not None:
            adding[side].append(index)
        elif adding[side]:
            pairs.append((adding[side].pop(), index))
    return sorted(pairs)


def adding_steps(frame):
    """Return the steps that add the lines of a frame in their least order."""
    return [("add", side, colour) for side, colour in frame.order()]
