"""Symmetries: the eight ways to mirror and turn a picture."""

from pictureframes.checks import SIDES, check_side, is_count
from pictureframes.errors import InvalidSymmetry
from pictureframes.pictures import Picture, check_picture, mirrored_rows, turned_rows


def check_symmetry(symmetry):
    """Raise InvalidSymmetry for a value that is no symmetry."""
    if not isinstance(symmetry, Symmetry):
        raise InvalidSymmetry(symmetry)


def moved_rows(rows, symmetry):
    """Return the rows mirrored and turned."""
    if symmetry.mirrors:
        rows = mirrored_rows(rows)
    for _ in range(symmetry.turns):
        rows = turned_rows(rows)
    return rows


class Symmetry:
    """Mirrors a picture or does not, and then turns it 0 to 3 times to the right."""

    def __init__(self, turns=0, mirrors=False):
        if not is_count(turns) or turns > 3:
            raise InvalidSymmetry(turns)
        if not isinstance(mirrors, bool):
            raise InvalidSymmetry(mirrors)
        self._turns = turns
        self._mirrors = mirrors

    @staticmethod
    def every():
        """Return the list of all eight symmetries in their order."""
        return [Symmetry(turns, mirrors) for mirrors in (False, True) for turns in range(4)]

    @property
    def turns(self):
        """How many quarter turns to the right it makes, after it has mirrored."""
        return self._turns

    @property
    def mirrors(self):
        """Whether it mirrors."""
        return self._mirrors

    def __mul__(self, other):
        if not isinstance(other, Symmetry):
            return NotImplemented
        # Turns before a mirroring are turns the other way round after it.
        earlier = -self._turns if other._mirrors else self._turns
        return Symmetry((other._turns + earlier) % 4, self._mirrors != other._mirrors)

    def inverse(self):
        """Return the symmetry that takes this one back."""
        if self._mirrors:
            return Symmetry(self._turns, True)
        return Symmetry(-self._turns % 4, False)

    def side(self, side):
        """Return the side to which this side comes."""
        check_side(side)
        place = SIDES.index(side)
        if self._mirrors:
            place = -place
        return SIDES[(place + self._turns) % 4]

    def steps(self):
        """Return a shortest list of turn and mirror steps for it."""
        if self._mirrors and self._turns == 3:
            # One turn before the mirroring does what three turns do after it.
            return [("turn",), ("mirror",)]
        turning = [("turn",)] * self._turns
        if self._mirrors:
            return [("mirror",)] + turning
        return turning

    def apply(self, picture):
        """Return the picture mirrored and turned."""
        check_picture(picture)
        return Picture(moved_rows(picture.rows, self))

    def __eq__(self, other):
        return isinstance(other, Symmetry) and self._turns == other._turns and self._mirrors == other._mirrors

    def __repr__(self):
        return f"Symmetry({self._turns}, {self._mirrors})"
