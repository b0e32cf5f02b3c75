"""What the tests share: plain computations from the words of the document, and wrong values."""

import random
from itertools import product

ORDER = "aAbBcCdD"
PAIRS = ("aA", "Aa", "bB", "Bb", "cC", "Cc", "dD", "Dd")
OPPOSITE = {pair[0]: pair[1] for pair in PAIRS}
SETS = {2: "aAbB", 3: "aAbBcC", 4: "aAbBcCdD"}


def plain_inverse(text):
    out = ""
    for letter in text:
        out = OPPOSITE[letter] + out
    return out


def plain_reduce(text):
    before = None
    while text != before:
        before = text
        for pair in PAIRS:
            text = text.replace(pair, "")
    return text


def plain_is_word(rank, text):
    if len(text) > 100:
        return False
    for letter in text:
        if letter not in SETS[rank]:
            return False
    for pair in PAIRS:
        if pair in text:
            return False
    return True


def word_key(word):
    return (len(word), [ORDER.index(letter) for letter in word])


def rotations(word):
    return [word[k:] + word[:k] for k in range(len(word))]


def plain_ring(word):
    while len(word) > 1 and OPPOSITE[word[0]] == word[-1]:
        word = word[1:-1]
    places = [ORDER.index(letter) for letter in word]
    start = min(range(len(word)), key=lambda k: places[k:] + places[:k])
    return word[start:] + word[:start]


def plain_is_ring(rank, text):
    if text == "" or not plain_is_word(rank, text):
        return False
    if len(text) > 1 and text[-1] == OPPOSITE[text[0]]:
        return False
    return not any(word_key(other) < word_key(text) for other in rotations(text))


def all_texts(rank, longest):
    """All strings of letters of the rank with at most `longest` letters."""
    return ["".join(chosen) for n in range(longest + 1) for chosen in product(SETS[rank], repeat=n)]


def all_words(rank, longest):
    return [text for text in all_texts(rank, longest) if plain_is_word(rank, text)]


def some_word(seed, rank, size):
    """A word of the rank with `size` letters, always the same one for the same seed."""
    source = random.Random(seed)
    out = ""
    while len(out) < size:
        letter = source.choice(SETS[rank])
        if out == "" or OPPOSITE[out[-1]] != letter:
            out += letter
    return out


def not_strings():
    """Values that are neither strings nor tuples of rings."""
    return [
        None, True, False, 0, 1, 2, -1, 10 ** 40, 1.5, float("nan"), b"", b"a", b"ab",
        [], ["a"], ["a", "b"], (), ("",), (("a",),), {}, {"a": 1}, {"a"}, frozenset("ab"),
        [[["a"]]], ((((("a",),),),),), {"a": ["b", ("c", None)]}, object(), str, len,
        ("a", None), ("a", 1), ("a", b"b"), ("a", ["b"]), ("a", ("b",)), (True,), [None],
    ]


def bad_ranks():
    return [
        None, True, False, 0, 1, 5, 6, -1, -2, -3, 10 ** 40, -10 ** 40, 1.5, 5.0, "", "2", "a", b"2",
        [], [2], (), (2,), {}, {2: 2}, {2}, ((2,), [3]), object(), int,
    ]


def texts_beyond(rank):
    """Strings that are not made of letters of the rank."""
    texts = [
        " ", "a ", " a", "a b", "1", "a1", "ab\n", "\n", "-", "e", "E", "aeb", "a\u0000", "\u00e4", "\u0430", "\ud800",
        "a,b", "ab'", "a" * 101 + "x", "\u0130", "\u00df", "\uff41",
    ]
    for pair in ("cC", "dD"):
        if pair[0] not in SETS[rank]:
            texts += [pair[0], pair[1], "a" + pair[0], pair[1] + "b", "a" + pair[1] + "a", pair]
    return texts


def not_reduced():
    return ["aA", "Aa", "bB", "Bb", "abBa", "aAb", "baA", "bAab", "abAaB", "aaaAAA", "aA" * 40]


def bad_words(rank):
    """Values of all kinds that are not words of the rank."""
    too_long = ["a" * 101, "ab" * 51, "Ab" * 50 + "A", "b" * 20000]
    return not_strings() + texts_beyond(rank) + not_reduced() + too_long
