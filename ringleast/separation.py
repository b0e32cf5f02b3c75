"""Separation: rows that split into independent groups of letters, and words that are images of one letter."""

from ringleast.checks import check_row, is_letter_set, letter_set
from ringleast.errors import BadWord, TooLong
from ringleast.evidence import row_behind
from ringleast.flows import certificate, check_certificate
from ringleast.graphs import components
from ringleast.images import base_letters
from ringleast.limits import MAX_LENGTH
from ringleast.minimal import reduce_row
from ringleast.rings import ring_from, row_length
from ringleast.steps import begins_with
from ringleast.words import check_rank, check_word


def split_by(rank, together):
    """Returns the split whose first letter set has the base letters among the given ones."""
    base = base_letters(rank)
    others = [letter for letter in base if letter not in together]
    return letter_set(rank, [letter for letter in base if letter in together]), letter_set(rank, others)


def is_split(rank, thing):
    """Tells whether `thing` is a split of the rank."""
    if not isinstance(thing, tuple) or len(thing) != 2 or not all([is_letter_set(rank, part) for part in thing]):
        return False
    if "a" not in thing[0] or thing[1] == "":
        return False
    return sorted(thing[0] + thing[1]) == list(base_letters(rank))


def separates(split, row):
    """Tells whether each ring has letters and inverses of letters of one of the two sets only."""
    for ring in row:
        if not any([all([letter in part for letter in ring.lower()]) for part in split]):
            return False
    return True


def separate(rank, row):
    """Returns ("separable", route, split) or ("connected", route, certificate)."""
    check_rank(rank)
    check_row(rank, row)
    route, result = reduce_row(rank, row)
    parts = components(rank, result)
    if len(parts) == 1:
        return "connected", route, certificate(rank, result)
    # In a minimal row paths join each letter that occurs to its inverse. So the letters of a ring are all in one
    # component, and the component of a has all of them or none.
    return "separable", route, split_by(rank, parts[0])


def check_separation(rank, row, thing):
    """Returns True if `thing` is a tuple that `separate` may return, otherwise False."""
    check_rank(rank)
    check_row(rank, row)
    if not begins_with(thing, "separable", 3) and not begins_with(thing, "connected", 3):
        return False
    result = row_behind(rank, row, thing[1], row_length(row))
    if result is None:
        return False
    if thing[0] == "separable":
        return is_split(rank, thing[2]) and separates(thing[2], result)
    return len(components(rank, result)) == 1 and check_certificate(rank, result, thing[2])


def row_of_word(rank, word):
    """Returns the row of the ring of a word alone, or raises the errors of `primitive`."""
    check_rank(rank)
    check_word(rank, word)
    if word == "":
        raise BadWord("the empty word has no ring")
    ring = ring_from(word)
    if len(ring) > MAX_LENGTH:
        raise TooLong(MAX_LENGTH)
    return (ring,)


def primitive(rank, word):
    """Returns ("primitive", route) or ("composite", route, certificate)."""
    route, result = reduce_row(rank, row_of_word(rank, word))
    if row_length(result) == 1:
        return "primitive", route
    return "composite", route, certificate(rank, result)


def check_primitive(rank, word, thing):
    """Returns True if `thing` is a tuple that `primitive` may return, otherwise False."""
    row = row_of_word(rank, word)
    if not begins_with(thing, "primitive", 2) and not begins_with(thing, "composite", 3):
        return False
    result = row_behind(rank, row, thing[1], row_length(row))
    if result is None:
        return False
    if thing[0] == "primitive":
        return row_length(result) == 1
    return row_length(result) > 1 and check_certificate(rank, result, thing[2])
