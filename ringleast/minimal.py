"""Minimal rows: moves that decrease the length, and what they lead to."""

from ringleast.checks import check_row
from ringleast.errors import NotMinimal
from ringleast.flows import certificate
from ringleast.images import image_row, step_images
from ringleast.rings import row_length
from ringleast.words import check_rank


def shorten(rank, row):
    """Returns a move that decreases the length of the row, or None for a minimal row."""
    check_rank(rank)
    check_row(rank, row)
    try:
        certificate(rank, row)
    except NotMinimal as e:
        return e.move
    return None


def is_minimal(rank, row):
    """Returns True if no move decreases the length of the row, otherwise False."""
    return shorten(rank, row) is None


def reduce_row(rank, row):
    """Returns (route, result): moves that decrease the length, and the minimal row to which they lead."""
    route = []
    move = shorten(rank, row)
    while move is not None:
        route.append(move)
        row = image_row(step_images(rank, move), row)
        move = shorten(rank, row)
    return tuple(route), row


def least_length(rank, row):
    """Returns the length of the minimal rows to which automorphisms take the row."""
    return row_length(reduce_row(rank, row)[1])
