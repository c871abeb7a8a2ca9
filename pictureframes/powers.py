"""Powers with exponents of any size, which are told without making their frames.

Each side of the original is followed by itself. A copy of the effect cuts off lines there and then adds lines, those
on the side of its frame that has come there. After four copies nothing is mirrored or turned. So four copies are a
round that repeats, and at most three more copies come after the rounds.
"""

from pictureframes.checks import SIDES, check_count, is_whole
from pictureframes.effects import check_effect
from pictureframes.errors import OutOfRange
from pictureframes.symmetries import Symmetry

COPIES = 4


def power_summary(effect, exponent):
    """Return (symmetry, lost, widths) for a power: its symmetry, the lost counts and the widths of its frame."""
    check_effect(effect)
    check_count(exponent)
    symmetry = _symmetry_of_power(effect, exponent)
    lost = []
    widths = {}
    for side in SIDES:
        many, width = _lost_and_width(effect, exponent, side)
        lost.append(many)
        widths[symmetry.side(side)] = width
    return symmetry, tuple(lost), tuple([widths[side] for side in SIDES])


def power_colour(effect, exponent, row, column):
    """Return the colour at a place of the frame of a power."""
    check_effect(effect)
    check_count(exponent)
    if not is_whole(row) or not is_whole(column) or (row, column) == (0, 0):
        raise OutOfRange((row, column))
    back = _symmetry_of_power(effect, exponent).inverse()
    crossing = []
    for number, before, behind in ((row, "top", "bottom"), (column, "left", "right")):
        if number == 0:
            continue
        line = _line_at(effect, exponent, back.side(before if number < 0 else behind), abs(number))
        if line is None:
            raise OutOfRange((row, column))
        crossing.append(line)
    # Of two lines, the one that was added later is the greater one.
    place = max(crossing)[2]
    return effect.frame.order()[place][1]


def _symmetry_of_power(effect, exponent):
    """Return the symmetry of a power."""
    symmetry = Symmetry()
    for _ in range(exponent % COPIES):
        symmetry = symmetry * effect.symmetry
    return symmetry


def _pile(effect, side, copies):
    """Return what so many copies do at a side of the original, as (lost, left).

    Lost is how many lines they cut off that were there before. Left is the list of what is left of the lines that
    they add, from the inside, as (copy, side, many): so many lines of one copy, the innermost ones on this side of
    its frame.
    """
    widths = effect.frame.widths
    lost = 0
    left = []
    for copy in range(copies):
        cuts = effect.lost[SIDES.index(side)]
        while cuts > 0 and len(left) > 0:
            earlier, place, many = left.pop()
            if many > cuts:
                left.append((earlier, place, many - cuts))
            cuts = max(cuts - many, 0)
        lost += cuts
        side = effect.symmetry.side(side)
        left.append((copy, side, widths[SIDES.index(side)]))
    return lost, left


def _number_of_lines(left):
    """Return how many lines are left."""
    return sum([piece[2] for piece in left])


def _lost_and_width_of_rounds(effect, rounds, side):
    """Return how many lines so many rounds cut off at a side of the original, and how many of their own are left."""
    if rounds == 0:
        return 0, 0
    lost, left = _pile(effect, side, COPIES)
    width = _number_of_lines(left)
    # Each later round first cuts off lines of the rounds before it, and then of the original if those are too few.
    return lost + (rounds - 1) * max(lost - width, 0), width + (rounds - 1) * max(width - lost, 0)


def _lost_and_width(effect, exponent, side):
    """Return how many lines a power cuts off at a side of the original, and how many lines it has there then."""
    rounds, copies = divmod(exponent, COPIES)
    lost, width = _lost_and_width_of_rounds(effect, rounds, side)
    lost_at_last, left = _pile(effect, side, copies)
    return lost + max(lost_at_last - width, 0), max(width - lost_at_last, 0) + _number_of_lines(left)


def _line_at(effect, exponent, side, number):
    """Return the line with this number at a side of the original, or None if there is none.

    It is told as (round, copy, place): the copy within the round, and the place in the least order of its frame.
    """
    rounds, copies = divmod(exponent, COPIES)
    width = _lost_and_width_of_rounds(effect, rounds, side)[1]
    lost, left = _pile(effect, side, copies)
    kept = max(width - lost, 0)
    if number > kept:
        return _line_in_pile(effect, rounds, left, number - kept)
    lost, left = _pile(effect, side, COPIES)
    # Of each round but the last one, the next round cuts off the outermost lines.
    staying = max(_number_of_lines(left) - lost, 0)
    earlier = (rounds - 1) * staying
    if number > earlier:
        return _line_in_pile(effect, rounds - 1, left, number - earlier)
    before, index = divmod(number - 1, staying)
    return _line_in_pile(effect, before, left, index + 1)


def _line_in_pile(effect, before, left, number):
    """Return the line with this number among those that are left of a round after so many others, or None."""
    for copy, side, many in left:
        if number <= many:
            places = [place for place, line in enumerate(effect.frame.order()) if line[0] == side]
            return (before, copy, places[number - 1])
        number -= many
    return None
