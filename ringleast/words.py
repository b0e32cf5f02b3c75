"""Letters and words: reducing, inverses and products."""

from ringleast.errors import BadRank, BadWord, TooLong
from ringleast.limits import MAX_RANK, MAX_WORD

LETTER_ORDER = "aAbBcCdD"


def check_rank(rank):
    """Raises BadRank if `rank` is not a rank."""
    if not isinstance(rank, int) or isinstance(rank, bool) or not 2 <= rank <= MAX_RANK:
        raise BadRank(f"a rank is an integer from 2 to {MAX_RANK}")


def check_word(rank, word):
    """Raises BadWord if `word` is not a word of the rank, which must be valid."""
    if not is_word(rank, word):
        raise BadWord(f"a word is a reduced string of at most {MAX_WORD} letters of the rank")


def letters(rank):
    """Returns the letters of the rank as a string in letter order."""
    check_rank(rank)
    return LETTER_ORDER[:2 * rank]


def has_letters_only(rank, thing):
    """Tells whether `thing` is a string of letters of the rank."""
    allowed = letters(rank)
    return isinstance(thing, str) and all([letter in allowed for letter in thing])


def is_reduced(text):
    """Tells whether no two adjacent letters are inverses."""
    return not any([x == y.swapcase() for x, y in zip(text, text[1:])])


def is_word(rank, thing):
    """Returns True if `thing` is a word of the rank, otherwise False."""
    return has_letters_only(rank, thing) and len(thing) <= MAX_WORD and is_reduced(thing)


def inverted(text):
    """Returns the inverse of a string of letters."""
    return text[::-1].swapcase()


def reduced(text):
    """Reduces a string of letters of any length."""
    kept = []
    for letter in text:
        if kept and kept[-1] == letter.swapcase():
            kept.pop()
        else:
            kept.append(letter)
    return "".join(kept)


def order_marks(text):
    """Returns a string of equal length. Such strings compare as their texts do in letter order."""
    return text.translate(str.maketrans("aAbBcCdD", "01234567"))


def within_limit(text):
    """Returns a reduced string, or raises TooLong if it is too long for a word."""
    if len(text) > MAX_WORD:
        raise TooLong(MAX_WORD)
    return text


def inverse(rank, word):
    """Returns the inverse of a word."""
    check_rank(rank)
    check_word(rank, word)
    return inverted(word)


def reduce_text(rank, text):
    """Reduces a string of letters of the rank."""
    check_rank(rank)
    if not has_letters_only(rank, text):
        raise BadWord("not a string of letters of the rank")
    return within_limit(reduced(text))


def product(rank, one, other):
    """Returns the product of two words."""
    check_rank(rank)
    check_word(rank, one)
    check_word(rank, other)
    return within_limit(reduced(one + other))
