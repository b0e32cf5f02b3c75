"""Verdicts: whether an automorphism takes one row to another one, with evidence."""

from ringleast.checks import check_row
from ringleast.evidence import row_behind
from ringleast.flows import certificate, check_certificate
from ringleast.images import undone
from ringleast.levels import canonical_row, in_row_order, is_closed, level_routes
from ringleast.limits import MAX_LENGTH
from ringleast.minimal import reduce_row
from ringleast.rings import row_length
from ringleast.steps import begins_with
from ringleast.words import check_rank


def way_back(route):
    """Returns a route that undoes a route."""
    return tuple([undone(step) for step in reversed(route)])


def equivalent(rank, one, other):
    """Returns a verdict on two rows."""
    check_rank(rank)
    check_row(rank, one)
    check_row(rank, other)
    if len(one) != len(other):
        return "different", "count"
    first_route, first = reduce_row(rank, one)
    second_route, second = reduce_row(rank, other)
    if row_length(first) != row_length(second):
        return "different", "length", first_route, certificate(rank, first), second_route, certificate(rank, second)
    routes = level_routes(rank, first)
    step, goal = canonical_row(rank, second)
    if goal not in routes:
        return "different", "level", first_route, second_route, in_row_order(routes)
    return "equivalent", first_route + routes[goal] + way_back(second_route + (step,))


def shows_lengths(rank, one, other, parts):
    """Tells whether (route, certificate, route, certificate) shows different least lengths of two rows."""
    first = row_behind(rank, one, parts[0], MAX_LENGTH)
    second = row_behind(rank, other, parts[2], MAX_LENGTH)
    if first is None or second is None or row_length(first) == row_length(second):
        return False
    return check_certificate(rank, first, parts[1]) and check_certificate(rank, second, parts[3])


def shows_levels(rank, one, other, parts):
    """Tells whether (route, route, rows) shows different levels of two rows."""
    first = row_behind(rank, one, parts[0], MAX_LENGTH)
    second = row_behind(rank, other, parts[1], MAX_LENGTH)
    rows = parts[2]
    if first is None or second is None or not is_closed(rank, rows):
        return False
    if row_length(second) != row_length(rows[0]):
        return False
    return canonical_row(rank, first)[1] in rows and canonical_row(rank, second)[1] not in rows


def is_different(thing, name, size):
    """Tells whether `thing` is a tuple of this size that begins with "different" and this name."""
    return begins_with(thing, "different", size) and begins_with(thing[1:], name, size - 1)


def check_verdict(rank, one, other, thing):
    """Returns True if `thing` is a verdict on the two rows, otherwise False."""
    check_rank(rank)
    check_row(rank, one)
    check_row(rank, other)
    if begins_with(thing, "equivalent", 2):
        return row_behind(rank, one, thing[1], max(row_length(one), row_length(other))) == other
    if len(one) != len(other):
        return is_different(thing, "count", 2)
    if is_different(thing, "length", 6):
        return shows_lengths(rank, one, other, thing[2:])
    return is_different(thing, "level", 5) and shows_levels(rank, one, other, thing[2:])
