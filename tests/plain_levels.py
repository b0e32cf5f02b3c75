"""Plain computations with levels, routes, splits and verdicts, from the words of the document."""

from functools import lru_cache

from plain import (
    all_moves, all_relabelings, all_steps, is_minimal_row, plain_components, plain_row, plain_substitution, row_size,
)
from reference import plain_is_ring, word_key
from ringleast.flows import check_certificate


def row_key(row):
    return [word_key(ring) for ring in row]


@lru_cache(maxsize=None)
def plain_step(rank, step, row):
    return plain_row(plain_substitution(rank, step), row)


def plain_way(rank, row, route):
    """The rows on the way of a route."""
    found = [row]
    for step in route:
        found.append(plain_step(rank, step, found[-1]))
    return found


@lru_cache(maxsize=None)
def plain_least_row(rank, row):
    """A minimal row: goes on with the first move that decreases the length."""
    while not is_minimal_row(rank, row):
        results = [plain_row(plain_substitution(rank, move), row) for move in all_moves(rank)]
        row = [result for result in results if row_size(result) < row_size(row)][0]
    return row


@lru_cache(maxsize=None)
def plain_canonical(rank, row):
    return min([plain_step(rank, step, row) for step in all_relabelings(rank)], key=row_key)


@lru_cache(maxsize=None)
def plain_neighbours(rank, row):
    results = {plain_step(rank, move, row) for move in all_moves(rank)}
    kept = [result for result in results if row_size(result) == row_size(row)]
    return tuple(sorted({plain_canonical(rank, result) for result in kept}, key=row_key))


def plain_level(rank, row, most=10 ** 6):
    """The level of a minimal row: a search through canonical rows, or None if it has more than `most` rows."""
    found = {plain_canonical(rank, row)}
    todo = list(found)
    while todo:
        for near in plain_neighbours(rank, todo.pop()):
            if near not in found:
                found.add(near)
                todo.append(near)
        if len(found) > most:
            return None
    return tuple(sorted(found, key=row_key))


def literal_level(rank, row):
    """The level of a minimal row: a search through all rows of the same length, by all steps."""
    found = {row}
    todo = [row]
    while todo:
        start = todo.pop()
        for step in all_steps(rank):
            result = plain_step(rank, step, start)
            if row_size(result) == row_size(row) and result not in found:
                found.add(result)
                todo.append(result)
    return tuple(sorted({plain_canonical(rank, each) for each in found}, key=row_key))


def plain_closed(rank, rows):
    """Whether a tuple of rows is closed, apart from the kinds of its values and the limits."""
    if list(rows) != sorted(set(rows), key=row_key) or len({(len(row), row_size(row)) for row in rows}) != 1:
        return False
    for row in rows:
        if plain_canonical(rank, row) != row or not is_minimal_row(rank, row):
            return False
        if not set(plain_neighbours(rank, row)) <= set(rows):
            return False
    return True


def plain_separates(split, row):
    return all(any(set(ring.lower()) <= set(part) for part in split) for ring in row)


def is_connected(rank, row):
    return len(plain_components(rank, row)) == 1


def plain_is_row(rank, thing):
    if type(thing) is not tuple or not 1 <= len(thing) <= 4:
        return False
    return all(type(ring) is str and plain_is_ring(rank, ring) for ring in thing) and row_size(thing) <= 60


def plain_end(rank, row, thing, limit):
    """The last row on the way, or None if `thing` is not a tuple of steps or a row on the way is above the limit."""
    if type(thing) is not tuple or not all(step in all_steps(rank) for step in thing):
        return None
    way = plain_way(rank, row, thing)
    return way[-1] if max(row_size(each) for each in way) <= limit else None


def plain_is_verdict(rank, one, other, thing):
    """Whether a value is a verdict, from the words of point 20. Certificates have tests of their own."""
    if type(thing) is not tuple or any(type(name) is not str for name in thing[:1]):
        return False
    if thing[:1] == ("equivalent",) and len(thing) == 2:
        return plain_end(rank, one, thing[1], max(row_size(one), row_size(other))) == other
    if len(one) != len(other):
        return thing == ("different", "count")
    if thing[:2] == ("different", "length") and len(thing) == 6:
        ends = [plain_end(rank, one, thing[2], 60), plain_end(rank, other, thing[4], 60)]
        if None in ends or row_size(ends[0]) == row_size(ends[1]):
            return False
        return check_certificate(rank, ends[0], thing[3]) and check_certificate(rank, ends[1], thing[5])
    if thing[:2] == ("different", "level") and len(thing) == 5:
        ends = [plain_end(rank, one, thing[2], 60), plain_end(rank, other, thing[3], 60)]
        rows = thing[4]
        if None in ends or rank == 4 or type(rows) is not tuple or not 1 <= len(rows) <= 40:
            return False
        if not all(plain_is_row(rank, row) for row in rows) or not plain_closed(rank, rows):
            return False
        sizes = {row_size(rows[0]), row_size(ends[1])}
        inside = [plain_canonical(rank, end) in rows for end in ends]
        return len(sizes) == 1 and max(sizes) <= 24 and inside == [True, False]
    return False
