"""Routes inside evidence: what a route leads to, as far as it stays within a length."""

from ringleast.errors import TooLong
from ringleast.images import image_row, step_images
from ringleast.rings import row_length
from ringleast.steps import is_step


def row_behind(rank, row, thing, limit):
    """Returns the row to which `thing` takes a row.

    Returns None if `thing` is not a tuple of steps, or if a row on the way is longer than the limit.
    """
    if not isinstance(thing, tuple) or row_length(row) > limit:
        return None
    for step in thing:
        if not is_step(rank, step):
            return None
        try:
            row = image_row(step_images(rank, step), row)
        except TooLong:
            return None
        if row_length(row) > limit:
            return None
    return row
