"""Sample routes, rows and substitutions. Each is always the same one for the same seed."""

import random
from functools import lru_cache

from plain import (
    BASE, all_moves, all_relabelings, all_steps, is_minimal_row, plain_compose, plain_identity, plain_row,
    plain_substitution, row_size,
)
from reference import plain_inverse, plain_reduce, plain_ring, some_word

# Substitutions that are no automorphisms.
NONE = {
    2: [
        ("", ""), ("", "b"), ("a", ""), ("aa", "b"), ("a", "bb"), ("aa", "bb"), ("a", "a"), ("a", "A"), ("ab", "ab"),
        ("ab", "BA"), ("ab", "abab"), ("ababab", "abab"), ("a" * 100, "a" * 99), ("aab", "aabaab"), ("a", "babAB"),
        ("babAB", "b"), ("abAB", "b"), ("aB", "ab"), ("abb", "baa"), ("a", "bab"), ("aabb", "ab"), ("ab", "Ab"),
        ("abA", "b"), ("abAB", "baBA"), ("a" * 99 + "b", "b" * 99 + "a"),
    ],
    3: [
        ("", "b", "c"), ("a", "b", ""), ("a", "b", "b"), ("a", "b", "cc"), ("a", "b", "ab"), ("a", "babAB", "c"),
        ("ab", "bc", "ca"), ("ab", "bc", "cA"), ("a", "b", "acbcA"), ("aab", "bbc", "cca"), ("a", "bcb", "c"),
        ("abc", "bca", "cab"), ("a", "b", "abAB"), ("ab", "ba", "c"),
    ],
    4: [
        ("", "b", "c", "d"), ("a", "b", "c", ""), ("a", "b", "c", "c"), ("a", "b", "c", "C"), ("a", "b", "c", "dd"),
        ("a", "b", "cd", "cD"), ("ab", "bc", "cd", "da"), ("a", "babAB", "c", "d"), ("a", "b", "c", "cdcDC"),
        ("a" * 100, "b" * 100, "c" * 100, "d" * 100), ("a", "b", "c", "abcABC"), ("ab", "ba", "c", "d"),
    ],
}

FEW_ROWS = [
    ("a",), ("B",), ("aa",), ("ab",), ("abAB",), ("aabb",), ("aab", "b"), ("a", "A", "b", "B"), ("a" * 60,),
    ("aabAB",), ("abAB", "abAB"), ("abAB" * 15,), ("aabbAB", "b"), ("aaaa", "bbb"), ("ab" * 30,),
]
MINIMAL = {
    2: [
        ("a",), ("B",), ("aa",), ("abAB",), ("aabb",), ("a", "b"), ("a", "A", "b", "B"), ("a" * 60,), ("abAB", "aabb"),
        ("aabbAB",), ("aabaB",), ("abAB" * 15,), ("a" * 30, "b" * 30), ("aabb", "a", "b"),
    ],
    3: [
        ("a",), ("c",), ("abAB",), ("abAB", "c"), ("aabbcc",), ("aabcBc",), ("a", "b", "c"), ("aabb", "cc"), ("bcBC",),
        ("abAB", "acAC", "bcBC"), ("c" * 60,),
    ],
    4: [
        ("a",), ("d",), ("abABcdCD",), ("abAB", "cdCD"), ("aabbccdd",), ("a", "b", "c", "d"), ("aa", "dd"), ("cdCD",),
        ("abcdABCD",), ("d" * 60,), ("aabbccdd" * 7,),
    ],
}


@lru_cache(maxsize=None)
def some_route(seed, rank, count):
    """Steps that are always the same ones for the same seed: one in eight is a relabeling."""
    source = random.Random(seed)
    found = []
    for _ in range(count):
        found.append(source.choice(source.choice([all_moves(rank)] * 7 + [all_relabelings(rank)])))
    return tuple(found)


@lru_cache(maxsize=None)
def some_automorphism(seed, rank, longest):
    """The total of steps, as many as possible with at most `longest` letters in each image."""
    images = plain_identity(rank)
    for step in some_route(seed, rank, 40):
        longer = plain_compose(plain_substitution(rank, step), images)
        if max(len(text) for text in longer) > longest:
            return images
        images = longer
    return images


def some_row(seed, rank, size, count=1):
    """A row of `count` rings with at most `size` letters in total, always the same one for the same seed."""
    source = random.Random(seed)
    return tuple(
        plain_ring(some_word(source.randrange(10 ** 6), rank, source.randint(1, size // count))) for _ in range(count)
    )


def some_rows(rank, size, many):
    return [some_row(seed, rank, size, 1 + seed % 4) for seed in range(many)]


def conjugation(rank, word):
    return tuple(plain_reduce(word + letter + plain_inverse(word)) for letter in BASE[rank])


@lru_cache(maxsize=None)
def automorphisms(rank):
    """Automorphisms of all kinds: steps, totals, conjugations, and images of up to 100 letters."""
    found = [plain_substitution(rank, step) for step in all_steps(rank)]
    for longest in (10, 30, 100):
        found += [some_automorphism(seed, rank, longest) for seed in range(25)]
    found += [conjugation(rank, some_word(size, rank, size)) for size in (1, 2, 5, 48, 49)]
    rest = plain_identity(rank)[2:]
    for pair in [("a", "a" * 99 + "b"), ("ab" * 49 + "a", "ab"), ("a", "a" * 50 + "b" + "A" * 49)]:
        found.append(pair + rest)
    return found


def rows_of_all_kinds(rank, many=30):
    return FEW_ROWS + MINIMAL[rank] + some_rows(rank, 16, many) + some_rows(rank, 60, 8)


def minimal_rows(rank):
    """Minimal rows: the ones above, and what rows become by moves that decrease their length."""
    found = list(MINIMAL[rank])
    for row in some_rows(rank, 14, 12):
        while not is_minimal_row(rank, row):
            row = min([plain_row(plain_substitution(rank, move), row) for move in all_moves(rank)], key=row_size)
        found.append(row)
    return found


@lru_cache(maxsize=None)
def some_way(seed, rank, row, longest, count=16):
    """A route through rows of at most `longest` letters, and the row to which it takes the row."""
    route = []
    for step in some_route(seed, rank, count):
        result = plain_row(plain_substitution(rank, step), row)
        if row_size(result) <= longest:
            route.append(step)
            row = result
    return tuple(route), row
