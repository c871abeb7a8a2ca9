"""Galleries: named pictures that several users change, each of whom may undo what they did."""

from pictureframes.checks import check_name, is_name
from pictureframes.errors import InvalidName, LastLine, NothingToUndo, UnknownName
from pictureframes.pictures import check_picture
from pictureframes.running import run

MOST_PICTURES = 20


def _run_again(picture, steps, index):
    """Return the picture after the entry with this index, which is named where it fails."""
    try:
        return run(picture, steps)
    except LastLine:
        raise LastLine(index) from None


class Gallery:
    """Pictures by names, and the list of what users did to them."""

    def __init__(self, pictures):
        if not isinstance(pictures, dict) or len(pictures) == 0 or len(pictures) > MOST_PICTURES:
            raise InvalidName(pictures)
        for name in pictures:
            check_name(name)
        for picture in pictures.values():
            check_picture(picture)
        self._begun = {name: pictures[name] for name in pictures}
        self._now = {name: pictures[name] for name in pictures}
        # The entries as tuples (user, name, steps), and for each of them the picture before it.
        self._done = []
        self._before = []

    def run(self, user, name, steps):
        """Run a sequence on a picture, keep the entry, and return the new picture."""
        check_name(user)
        before = self.picture(name)
        after = run(before, steps)
        self._done.append((user, name, tuple(steps)))
        self._before.append(before)
        self._now[name] = after
        return after

    def undo(self, user):
        """Remove the last entry of this user, as if it had never been made, and return it."""
        check_name(user)
        place = self._place_of_last(user)
        if place is None:
            raise NothingToUndo()
        user, name, steps = self._done[place]
        left = self._done[:place] + self._done[place + 1:]
        before = self._before[:place]
        picture = self._before[place]
        for index in range(place, len(left)):
            if left[index][1] == name:
                before.append(picture)
                picture = _run_again(picture, left[index][2], index)
            else:
                before.append(self._before[index + 1])
        self._done = left
        self._before = before
        self._now[name] = picture
        return (user, name, list(steps))

    def picture(self, name):
        """Return the picture as it is now."""
        if not is_name(name) or name not in self._now:
            raise UnknownName(name)
        return self._now[name]

    @property
    def names(self):
        """The names of the pictures, ascending."""
        return sorted(list(self._begun))

    @property
    def entries(self):
        """The entries (user, name, steps) in their order, with the steps as a list."""
        return [(user, name, list(steps)) for user, name, steps in self._done]

    def copy(self):
        """Return an independent gallery."""
        twin = Gallery(self._begun)
        twin._now = {name: self._now[name] for name in self._now}
        twin._done = list(self._done)
        twin._before = list(self._before)
        return twin

    def _place_of_last(self, user):
        """Return the index of the last entry of a user, or None if there is none."""
        for index in reversed(range(len(self._done))):
            if self._done[index][0] == user:
                return index
        return None

    def __eq__(self, other):
        return isinstance(other, Gallery) and self._begun == other._begun and self._done == other._done

    def __len__(self):
        return len(self._done)
