"""Steps and routes: moves, relabelings, totals, and the rows on the way."""

from ringleast.checks import check_row, check_substitution, is_letter, is_letter_set
from ringleast.errors import BadStep, TooLong
from ringleast.images import base_letters, composed, image_row, step_images, undone
from ringleast.limits import MAX_TOTAL
from ringleast.reduction import automorphism_route
from ringleast.words import check_rank, has_letters_only, letters, order_marks, within_limit


def begins_with(thing, name, size):
    """Tells whether `thing` is a tuple of this size whose first item is this name."""
    if not isinstance(thing, tuple) or len(thing) != size:
        return False
    return isinstance(thing[0], str) and thing[0] == name


def is_move(rank, thing):
    """Tells whether `thing` is a move of the rank."""
    if not begins_with(thing, "move", 3):
        return False
    if not is_letter(rank, thing[1]) or not is_letter_set(rank, thing[2]):
        return False
    return thing[1] in thing[2] and thing[1].swapcase() not in thing[2]


def is_relabeling(rank, thing):
    """Tells whether `thing` is a relabeling of the rank."""
    if not begins_with(thing, "relabel", 2) or not has_letters_only(rank, thing[1]):
        return False
    return sorted(thing[1].lower()) == list(base_letters(rank))


def is_step(rank, thing):
    """Returns True if `thing` is a step of the rank, otherwise False."""
    check_rank(rank)
    return is_move(rank, thing) or is_relabeling(rank, thing)


def check_step(rank, step):
    """Raises BadStep if `step` is not a step of the rank."""
    if not is_step(rank, step):
        raise BadStep(None)


def check_route(rank, route):
    """Raises BadStep if `route` is neither a tuple nor a list of steps of the rank."""
    if not isinstance(route, (tuple, list)):
        raise BadStep(None)
    for index, step in enumerate(route):
        if not is_step(rank, step):
            raise BadStep(index)


def sides_of(rank, s):
    """Returns the letter sets that contain s and not the inverse of s, in the order of `moves`."""
    sides = [""]
    for letter in letters(rank):
        if letter == s:
            sides = [side + letter for side in sides]
        elif letter != s.swapcase():
            sides = sides + [side + letter for side in sides]
    return sorted(sides, key=order_marks)


def moves(rank):
    """Returns a list of all moves, ascending by letter and then by side."""
    check_rank(rank)
    return [("move", s, side) for s in letters(rank) for side in sides_of(rank, s)]


def undo_step(rank, step):
    """Returns a step whose substitution is the inverse."""
    check_rank(rank)
    check_step(rank, step)
    return undone(step)


def substitution_of(rank, step):
    """Returns the substitution of a step."""
    check_rank(rank)
    check_step(rank, step)
    return step_images(rank, step)


def total(rank, route):
    """Returns the total of a route: the substitution that applies its first step first."""
    check_rank(rank)
    check_route(rank, route)
    images = tuple(base_letters(rank))
    for step in reversed(route):
        images = composed(images, step_images(rank, step))
        if max([len(text) for text in images]) > MAX_TOTAL:
            raise TooLong(MAX_TOTAL)
    return tuple([within_limit(text) for text in images])


def step_row(rank, row, step):
    """Returns the row to which a step takes a row."""
    check_rank(rank)
    check_row(rank, row)
    check_step(rank, step)
    return image_row(step_images(rank, step), row)


def walk(rank, row, route):
    """Returns the row to which a route takes a row."""
    check_rank(rank)
    check_row(rank, row)
    check_route(rank, route)
    for step in route:
        row = image_row(step_images(rank, step), row)
    return row


def factor(rank, substitution):
    """Returns a route whose total is the automorphism."""
    check_rank(rank)
    check_substitution(rank, substitution)
    return automorphism_route(rank, substitution)
