"""Effects: what a sequence does to every picture that is large enough."""

from pictureframes.checks import SIDES, is_count
from pictureframes.errors import InvalidEffect, LimitExceeded, TooSmall
from pictureframes.frames import MOST_LINES, Frame, check_frame, enclosed_rows, frame_of
from pictureframes.pictures import Picture, check_picture
from pictureframes.running import check_steps
from pictureframes.symmetries import Symmetry, check_symmetry, moved_rows


def check_effect(effect):
    """Raise InvalidEffect for a value that is no effect."""
    if not isinstance(effect, Effect):
        raise InvalidEffect(effect)


def upright_moves(steps):
    """Return the symmetry of a valid sequence, and the list of its cuts and added lines as (index, side, colour).

    The sides are those on which the lines would be if the picture had never been mirrored and turned; the colour of
    a cut is None.
    """
    symmetry = Symmetry()
    moves = []
    for index, step in enumerate(steps):
        if step[0] == "turn":
            symmetry = symmetry * Symmetry(1)
        elif step[0] == "mirror":
            symmetry = symmetry * Symmetry(0, True)
        else:
            side = symmetry.inverse().side(step[1])
            moves.append((index, side, step[2] if step[0] == "add" else None))
    return symmetry, moves


def composition(one, other):
    """Return the effect of running the second after the first, with however many lines."""
    back = one.symmetry.inverse()
    lost = {side: many for side, many in zip(SIDES, one.lost)}
    left = {}
    for side, width, cuts in zip(SIDES, one.frame.widths, other.lost):
        left[side] = max(width - cuts, 0)
        lost[back.side(side)] += max(cuts - width, 0)
    inner = []
    for side, colour in one.frame.order():
        if left[side] > 0:
            left[side] -= 1
            inner.append((other.symmetry.side(side), colour))
    frame = frame_of(inner + other.frame.order())
    return Effect(one.symmetry * other.symmetry, tuple([lost[side] for side in SIDES]), frame)


def _is_lost(value):
    """Tell whether a value is a tuple of four counts."""
    return isinstance(value, tuple) and len(value) == 4 and all([is_count(many) for many in value])


class Effect:
    """A symmetry, what is lost at the four sides, and a frame."""

    def __init__(self, symmetry, lost, frame):
        check_symmetry(symmetry)
        if not _is_lost(lost):
            raise InvalidEffect(lost)
        check_frame(frame)
        self._symmetry = symmetry
        self._lost = lost
        self._frame = frame

    @classmethod
    def of(cls, steps):
        """Return the effect of a sequence."""
        check_steps(steps)
        symmetry, moves = upright_moves(steps)
        added = {side: [] for side in SIDES}
        lost = {side: 0 for side in SIDES}
        for index, side, colour in moves:
            if colour is not None:
                added[side].append((index, side, colour))
            elif added[side]:
                added[side].pop()
            else:
                lost[side] += 1
        lines = sorted([line for side in SIDES for line in added[side]])
        frame = frame_of([(symmetry.side(side), colour) for _, side, colour in lines])
        return cls(symmetry, tuple([lost[side] for side in SIDES]), frame)

    @classmethod
    def identity(cls):
        """Return the effect of the empty sequence."""
        return cls(Symmetry(), (0, 0, 0, 0), Frame(()))

    @property
    def symmetry(self):
        """How the core is mirrored and turned."""
        return self._symmetry

    @property
    def lost(self):
        """How many lines the original has lost at its top, right, bottom and left."""
        return self._lost

    @property
    def frame(self):
        """The lines around the core."""
        return self._frame

    @property
    def smallest(self):
        """The smallest size that is large enough, as (height, width)."""
        top, right, bottom, left = self._lost
        return (top + bottom + 1, right + left + 1)

    def apply(self, picture):
        """Return the picture after it."""
        check_picture(picture)
        least_height, least_width = self.smallest
        if picture.height < least_height or picture.width < least_width:
            raise TooSmall(least_height, least_width)
        top, right, bottom, left = self._lost
        rows = picture.rows[top:picture.height - bottom]
        core = tuple([row[left:picture.width - right] for row in rows])
        return Picture(enclosed_rows(moved_rows(core, self._symmetry), self._frame))

    def then(self, other):
        """Return the composition of this effect and the other one."""
        check_effect(other)
        result = composition(self, other)
        if len(result.frame) > MOST_LINES:
            raise LimitExceeded(len(result.frame))
        return result

    def __eq__(self, other):
        if not isinstance(other, Effect):
            return False
        return self._symmetry == other._symmetry and self._lost == other._lost and self._frame == other._frame

    def __repr__(self):
        return f"Effect({self._symmetry!r}, {self._lost!r}, {self._frame!r})"
