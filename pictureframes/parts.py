"""Parts of pictures: the rectangles of cells that are left without some lines at the sides.

The margins of a part are how many lines it leaves out at the top, right, bottom and left, as a tuple. It has at least
one cell.
"""

from pictureframes.errors import LimitExceeded
from pictureframes.frames import Frame


def check_cells(picture, most):
    """Raise LimitExceeded for a picture with more cells than this."""
    cells = picture.height * picture.width
    if cells > most:
        raise LimitExceeded(cells)


def has_part(picture, margins):
    """Tell whether these margins leave at least one cell of a picture."""
    top, right, bottom, left = margins
    return top + bottom < picture.height and right + left < picture.width


def all_margins(picture):
    """Return the margins of all parts of a picture, ascending."""
    return [
        (top, right, bottom, left)
        for top in range(picture.height)
        for right in range(picture.width)
        for bottom in range(picture.height - top)
        for left in range(picture.width - right)
    ]


def rows_within(picture, margins):
    """Return the rows of a part."""
    top, right, bottom, left = margins
    rows = picture.rows[top:picture.height - bottom]
    return tuple([row[left:picture.width - right] for row in rows])


def frame_around(picture, margins):
    """Return the frame around a part, or None if the cells around it are not those of a frame."""
    top, right, bottom, left = margins
    return Frame.around(picture, top, left, picture.height - top - bottom, picture.width - left - right)
