"""Levels: canonical rows, and the minimal rows that moves connect."""

from ringleast.checks import check_row
from ringleast.errors import TooLarge
from ringleast.flows import certificate
from ringleast.graphs import row_cut, row_degree
from ringleast.images import base_letters, image_row, image_table, move_images
from ringleast.limits import MAX_LEVEL, MAX_LEVEL_LENGTH, MAX_LEVEL_RANK
from ringleast.minimal import is_minimal
from ringleast.rings import first_rotation, is_row, row_length
from ringleast.steps import sides_of
from ringleast.words import check_rank, letters, order_marks


def row_key(row):
    """Returns what decides which of two rows with equally many rings comes first in row order."""
    return [(len(ring), order_marks(ring)) for ring in row]


def in_row_order(rows):
    """Returns the rows as a tuple in row order."""
    return tuple(sorted(rows, key=row_key))


def all_names(rank):
    """Returns a list of the names that relabelings of the rank give to the base letters."""
    found = [""]
    for _ in range(rank):
        found = [names + x for names in found for x in letters(rank) if x.lower() not in names.lower()]
    return found


def renamed(names, ring):
    """Returns the ring to which the relabeling with these names takes a ring."""
    table = image_table(names)
    return first_rotation("".join([table[letter] for letter in ring]))


def canonical_row(rank, row):
    """Returns (step, result): a relabeling and the canonical row of a row."""
    choices = all_names(rank)
    result = []
    for ring in row:
        # An earlier ring decides first, so only the relabelings with the best rings so far go on.
        made = {names: renamed(names, ring) for names in choices}
        best = min(list(made.values()), key=order_marks)
        choices = [names for names in choices if made[names] == best]
        result.append(best)
    return ("relabel", choices[0]), tuple(result)


def kept_lengths(rank, row):
    """Returns a dict: each row to which moves that keep the length take the row, with such a move."""
    found = {}
    # The moves with the other letters take the row to the same rows.
    for s in base_letters(rank):
        size = row_degree(row, s)
        for side in sides_of(rank, s):
            if row_cut(row, side) == size:
                found[image_row(move_images(rank, s, side), row)] = ("move", s, side)
    return found


def neighbour_routes(rank, row):
    """Returns a dict: each neighbour of a row with a route of two steps that leads to it."""
    found = {}
    for result, move in kept_lengths(rank, row).items():
        step, near = canonical_row(rank, result)
        found[near] = (move, step)
    return found


def level_routes(rank, row):
    """Returns a dict: each row of the level of a minimal row with a route that leads to it."""
    if rank > MAX_LEVEL_RANK:
        raise TooLarge(MAX_LEVEL_RANK)
    if row_length(row) > MAX_LEVEL_LENGTH:
        raise TooLarge(MAX_LEVEL_LENGTH)
    # It raises NotMinimal for the other rows.
    certificate(rank, row)
    step, first = canonical_row(rank, row)
    routes = {first: (step,)}
    queue = [first]
    at = 0
    while at < len(queue):
        start = queue[at]
        at += 1
        for near, steps in neighbour_routes(rank, start).items():
            if near not in routes:
                routes[near] = routes[start] + steps
                queue.append(near)
        if len(routes) > MAX_LEVEL:
            raise TooLarge(MAX_LEVEL)
    return routes


def canonical(rank, row):
    """Returns (step, result): a relabeling that takes the row to `result`, its canonical row."""
    check_rank(rank)
    check_row(rank, row)
    return canonical_row(rank, row)


def neighbours(rank, row):
    """Returns the canonical rows of the results of all moves that keep the length, in row order."""
    check_rank(rank)
    check_row(rank, row)
    return in_row_order(neighbour_routes(rank, row))


def level(rank, row):
    """Returns the level of a minimal row."""
    check_rank(rank)
    check_row(rank, row)
    return in_row_order(level_routes(rank, row))


def has_level_shape(rank, thing):
    """Tells whether `thing` is a tuple of rows in row order, with one length, within the limits of levels."""
    if rank > MAX_LEVEL_RANK or not isinstance(thing, tuple) or not 1 <= len(thing) <= MAX_LEVEL:
        return False
    if not all([is_row(rank, row) for row in thing]):
        return False
    if len(set([(len(row), row_length(row)) for row in thing])) > 1 or row_length(thing[0]) > MAX_LEVEL_LENGTH:
        return False
    keys = [row_key(row) for row in thing]
    return all([key < following for key, following in zip(keys, keys[1:])])


def is_closed(rank, thing):
    """Returns True if `thing` is closed, otherwise False."""
    check_rank(rank)
    if not has_level_shape(rank, thing):
        return False
    for row in thing:
        if canonical_row(rank, row)[1] != row or not is_minimal(rank, row):
            return False
        if not all([near in thing for near in neighbour_routes(rank, row)]):
            return False
    return True
