"""Checks of parameters that several modules share. The rank must be valid, except in `check_row`."""

from ringleast.errors import BadLetter, BadRow, BadSubstitution
from ringleast.limits import MAX_LENGTH, MAX_RINGS
from ringleast.rings import is_row
from ringleast.words import is_word, letters


def is_integer_value(thing):
    """Tells whether `thing` is an integer. True and False are not."""
    return isinstance(thing, int) and not isinstance(thing, bool)


def is_letter(rank, thing):
    """Tells whether `thing` is a letter of the rank."""
    return isinstance(thing, str) and len(thing) == 1 and thing in letters(rank)


def letter_set(rank, chosen):
    """Returns the letter set with the chosen letters, which may stand in any order."""
    return "".join([letter for letter in letters(rank) if letter in chosen])


def is_letter_set(rank, thing):
    """Tells whether `thing` is a letter set of the rank."""
    return isinstance(thing, str) and letter_set(rank, thing) == thing


def is_substitution(rank, thing):
    """Tells whether `thing` is a substitution of the rank."""
    if not isinstance(thing, tuple) or len(thing) != rank:
        return False
    return all([is_word(rank, word) for word in thing])


def check_letter(rank, letter):
    """Raises BadLetter if `letter` is not a letter of the rank."""
    if not is_letter(rank, letter):
        raise BadLetter("not a letter of the rank")


def check_side(rank, side):
    """Raises BadLetter if `side` is not a letter set of the rank."""
    if not is_letter_set(rank, side):
        raise BadLetter("a letter set has letters of the rank in letter order, without duplicates")


def check_row(rank, row):
    """Raises BadRank or BadRow if `row` is not a row of a rank."""
    if not is_row(rank, row):
        raise BadRow(f"a row is a tuple of 1 to {MAX_RINGS} rings with at most {MAX_LENGTH} letters in total")


def check_substitution(rank, substitution):
    """Raises BadSubstitution if `substitution` is not a substitution of the rank."""
    if not is_substitution(rank, substitution):
        raise BadSubstitution("a substitution is a tuple with a word for each base letter of the rank")
