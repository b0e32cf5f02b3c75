"""Rings and rows: cyclic words and tuples of them."""

from ringleast.limits import MAX_LENGTH, MAX_RINGS
from ringleast.words import check_rank, check_word, is_word, order_marks


def without_inverse_ends(word):
    """Deletes the first and the last letter of a word while they are inverses."""
    start = 0
    end = len(word)
    while end - start > 1 and word[start] == word[end - 1].swapcase():
        start += 1
        end -= 1
    return word[start:end]


def first_rotation(word):
    """Returns the first rotation, in word order, of a nonempty word."""
    text = order_marks(word)
    turns = [text[k:] + text[:k] for k in range(len(text))]
    start = turns.index(min(turns))
    return word[start:] + word[:start]


def ring_from(word):
    """Returns the ring of a nonempty word of any length."""
    return first_rotation(without_inverse_ends(word))


def is_ring(rank, thing):
    """Returns True if `thing` is a ring of the rank, otherwise False."""
    return is_word(rank, thing) and thing != "" and ring_from(thing) == thing


def row_length(row):
    """Returns the total number of letters of the rings of a row."""
    return sum([len(ring) for ring in row])


def is_row(rank, thing):
    """Returns True if `thing` is a row of the rank, otherwise False."""
    check_rank(rank)
    if not isinstance(thing, tuple) or not 1 <= len(thing) <= MAX_RINGS:
        return False
    return all([is_ring(rank, ring) for ring in thing]) and row_length(thing) <= MAX_LENGTH


def ring_of(rank, word):
    """Returns the ring of a word, or "" for the empty word."""
    check_rank(rank)
    check_word(rank, word)
    if word == "":
        return ""
    return ring_from(word)
