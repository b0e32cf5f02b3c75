"""Substitutions: images, compositions, automorphisms and their inverses."""

from ringleast.checks import check_row, check_substitution
from ringleast.errors import TooLong
from ringleast.images import composed, image_row, image_table, image_text
from ringleast.limits import MAX_WORD
from ringleast.reduction import automorphism_route, inverse_images, route_to
from ringleast.words import check_rank, check_word, within_limit


def words_within_limit(images):
    """Returns the images, or raises TooLong if one is too long for a word."""
    return tuple([within_limit(text) for text in images])


def image(rank, substitution, word):
    """Returns the image of a word."""
    check_rank(rank)
    check_substitution(rank, substitution)
    check_word(rank, word)
    return within_limit(image_text(image_table(substitution), word))


def compose(rank, outer, inner):
    """Returns the composition of two substitutions: the outer image of each inner image."""
    check_rank(rank)
    check_substitution(rank, outer)
    check_substitution(rank, inner)
    return words_within_limit(composed(outer, inner))


def is_automorphism(rank, substitution):
    """Returns True if the substitution is an automorphism, otherwise False."""
    check_rank(rank)
    check_substitution(rank, substitution)
    return route_to(rank, substitution) is not None


def undo(rank, substitution):
    """Returns the inverse of an automorphism."""
    check_rank(rank)
    check_substitution(rank, substitution)
    if sum([len(word) for word in substitution]) > MAX_WORD:
        raise TooLong(MAX_WORD)
    route = automorphism_route(rank, substitution)
    return words_within_limit(inverse_images(rank, route))


def apply(rank, substitution, row):
    """Returns the row to which an automorphism takes a row."""
    check_rank(rank)
    check_substitution(rank, substitution)
    check_row(rank, row)
    automorphism_route(rank, substitution)
    return image_row(substitution, row)
