"""All effects that turn pictures into others.

What is left of a picture tells which frames fit: an effect turns before into after if and only if after has a part
that is the core, mirrored and turned, with the frame around it. So effects are found in groups (symmetry, lost,
fitting), where fitting is a list of pairs of the frame's widths and the frame.
"""

from pictureframes.effects import Effect
from pictureframes.errors import InvalidPicture
from pictureframes.parts import all_margins, check_cells, frame_around, has_part, rows_within
from pictureframes.pictures import Picture, check_picture
from pictureframes.symmetries import Symmetry, moved_rows

MOST_CELLS = 36
MOST_OBSERVATIONS = 20


def effects_between(before, after):
    """Return all effects that turn before into after, ascending by symmetry, then by lost, then by widths."""
    check_picture(before)
    check_picture(after)
    return _effects_in(_groups_between(before, after))


def agreeing_effects(observations):
    """Return the effects that turn the first picture of each observation into the second one, in the same order."""
    if not _are_observations(observations):
        raise InvalidPicture(observations)
    before, after = observations[0]
    groups = _groups_between(before, after)
    for before, after in observations[1:]:
        groups = _agreeing_groups(groups, before, after)
    return _effects_in(groups)


def _are_observations(value):
    """Tell whether a value is a list of 1 to 20 tuples of two pictures."""
    if not isinstance(value, list) or len(value) == 0 or len(value) > MOST_OBSERVATIONS:
        return False
    return all([_is_observation(item) for item in value])


def _is_observation(value):
    """Tell whether a value is a tuple of two pictures."""
    if not isinstance(value, tuple) or len(value) != 2:
        return False
    return isinstance(value[0], Picture) and isinstance(value[1], Picture)


def _effects_in(groups):
    """Return the effects of groups."""
    return [Effect(symmetry, lost, frame) for symmetry, lost, fitting in groups for _, frame in fitting]


def _groups_between(before, after):
    """Return the groups of the effects that turn before into after, in their order."""
    check_cells(before, MOST_CELLS)
    check_cells(after, MOST_CELLS)
    fitting_by_core = _fitting_by_core(after)
    groups = []
    for symmetry in Symmetry.every():
        for lost in all_margins(before):
            core = moved_rows(rows_within(before, lost), symmetry)
            if core in fitting_by_core:
                groups.append((symmetry, lost, fitting_by_core[core]))
    return groups


def _fitting_by_core(after):
    """Return a dict from the rows of each part that has a frame around it to the list of (widths, frame)."""
    found = {}
    for widths in all_margins(after):
        frame = frame_around(after, widths)
        if frame is not None:
            found.setdefault(rows_within(after, widths), []).append((widths, frame))
    return found


def _agreeing_groups(groups, before, after):
    """Return what is left of the groups, which turn one other picture into one, if they turn before into after too."""
    cores = _cores_by_widths(groups, after)
    agreeing = []
    for symmetry, lost, fitting in groups:
        if not has_part(before, lost):
            continue
        core = moved_rows(rows_within(before, lost), symmetry)
        kept = [(widths, frame) for widths, frame in fitting if cores[widths] == core]
        if len(kept) > 0:
            agreeing.append((symmetry, lost, kept))
    return agreeing


def _cores_by_widths(groups, after):
    """Return a dict from the widths of each frame to the rows that it has inside in after, None if it is not there."""
    cores = {}
    for group in groups:
        for widths, frame in group[2]:
            # Frames of the same widths are equal here, as all of them were found in one picture.
            if widths not in cores:
                cores[widths] = _core_inside(after, widths, frame)
    return cores


def _core_inside(after, widths, frame):
    """Return the rows that a frame has inside in a picture, or None if it is not around them."""
    if not has_part(after, widths) or frame_around(after, widths) != frame:
        return None
    return rows_within(after, widths)
