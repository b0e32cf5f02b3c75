"""Points 24 and 25: exponents, matrices, determinants, tables, values and traces."""

import unittest
from itertools import permutations

from plain import BASE, RANKS, all_steps, plain_compose, plain_identity, plain_image, plain_substitution
from reference import all_words, plain_inverse, plain_reduce, plain_ring, rotations, some_word
from ringleast.errors import BadTables
from ringleast.shadows import carried, determinant, exponents, matrix, trace, value
from samples import NONE, automorphisms, conjugation, some_automorphism
from wrong import bad_tables

ONE = ((1, 0), (0, 1))
TABLES = [
    ONE, ((1, 1), (0, 1)), ((1, 0), (1, 1)), ((2, 1), (1, 1)), ((0, -1), (1, 0)), ((-1, 0), (0, -1)),
    ((3, -5), (-4, 7)), ((10 ** 30, 10 ** 30 - 1), (1, 1)), ((1, -10 ** 50), (0, 1)), ((-7, -3), (5, 2)),
]


def all_tables(rank):
    """Tuples of tables: the same ones each time."""
    return [tuple(TABLES[(k + i * i * (k + 1)) % len(TABLES)] for i in range(rank)) for k in range(len(TABLES) + 3)]


def plain_exponents(rank, word):
    found = {letter: 0 for letter in BASE[rank]}
    for letter in word:
        found[letter.lower()] += 1 if letter.islower() else -1
    return tuple(found[letter] for letter in BASE[rank])


def plain_determinant(lines):
    """The sum over all permutations."""
    total = 0
    for order in permutations(range(len(lines))):
        part = 1
        for i, k in enumerate(order):
            part *= lines[i][k]
            part *= (-1) ** sum(other > k for other in order[:i])
        total += part
    return total


def plain_times(one, other):
    return tuple(tuple(sum(one[i][m] * other[m][k] for m in range(2)) for k in range(2)) for i in range(2))


def plain_value(rank, tables, word):
    result = ONE
    for letter in word:
        table = tables[BASE[rank].index(letter.lower())]
        if letter.isupper():
            (p, q), (u, v) = table
            table = ((v, -q), (-u, p))
        result = plain_times(result, table)
    return result


def words_of(rank):
    return all_words(rank, 2)[::rank] + [some_word(seed, rank, 5 * seed) for seed in range(21)] + ["", "a" * 100]


def substitutions(rank):
    return NONE[rank] + automorphisms(rank)[::7] + [plain_identity(rank)]


class Exponents(unittest.TestCase):
    def test_against_counting(self):
        for rank in RANKS:
            for word in words_of(rank):
                made = exponents(rank, word)
                self.assertEqual(made, plain_exponents(rank, word))
                self.assertEqual([type(made)] + [type(number) for number in made], [tuple] + [int] * rank)

    def test_the_empty_word(self):
        for rank in RANKS:
            self.assertEqual(exponents(rank, ""), (0,) * rank)

    def test_inverses_and_products(self):
        for rank in RANKS:
            for seed in range(12):
                one, other = some_word(seed, rank, 3 * seed), some_word(seed + 50, rank, 2 * seed)
                minus = tuple(-number for number in exponents(rank, one))
                self.assertEqual(exponents(rank, plain_inverse(one)), minus)
                both = tuple(x + y for x, y in zip(exponents(rank, one), exponents(rank, other)))
                self.assertEqual(exponents(rank, plain_reduce(one + other)), both)


class Matrix(unittest.TestCase):
    def test_against_counting(self):
        for rank in RANKS:
            for images in substitutions(rank):
                made = matrix(rank, images)
                self.assertEqual(made, tuple(plain_exponents(rank, word) for word in images))
                self.assertEqual([type(line) for line in made], [tuple] * rank)
                self.assertIs(type(made), tuple)

    def test_the_identity(self):
        for rank in RANKS:
            lines = tuple(tuple(int(i == k) for k in range(rank)) for i in range(rank))
            self.assertEqual(matrix(rank, plain_identity(rank)), lines)
            self.assertEqual(matrix(rank, ("",) * rank), ((0,) * rank,) * rank)

    def test_compositions_are_products(self):
        for rank in RANKS:
            for seed in range(12):
                outer, inner = some_automorphism(seed, rank, 9), some_automorphism(seed + 40, rank, 9)
                rows, other = matrix(rank, inner), matrix(rank, outer)
                both = tuple(
                    tuple(sum(rows[i][m] * other[m][k] for m in range(rank)) for k in range(rank)) for i in range(rank)
                )
                self.assertEqual(matrix(rank, plain_compose(outer, inner)), both)


class Determinant(unittest.TestCase):
    def test_against_permutations(self):
        for rank in RANKS:
            for images in substitutions(rank):
                made = determinant(rank, images)
                self.assertEqual(made, plain_determinant([plain_exponents(rank, word) for word in images]))
                self.assertIs(type(made), int)

    def test_random_words(self):
        for rank in RANKS:
            seen = set()
            for seed in range(80):
                images = tuple(some_word(seed * 7 + k, rank, 1 + (seed * (k + 3)) % 40) for k in range(rank))
                seen.add(determinant(rank, images))
                self.assertEqual(determinant(rank, images), plain_determinant(matrix(rank, images)))
            self.assertGreater(len(seen), 15)

    def test_automorphisms(self):
        for rank in RANKS:
            found = [determinant(rank, images) for images in automorphisms(rank)]
            self.assertEqual(sorted(set(found)), [-1, 1])
            for step in all_steps(rank):
                expected = plain_determinant(matrix(rank, plain_substitution(rank, step)))
                self.assertEqual(determinant(rank, plain_substitution(rank, step)), expected)
                if step[0] == "move":
                    self.assertEqual(expected, 1)

    def test_large_entries(self):
        self.assertEqual(determinant(2, ("a" * 100, "B" * 100)), -10000)
        self.assertEqual(determinant(3, ("c" * 100, "a" * 100, "b" * 100)), 10 ** 6)
        self.assertEqual(determinant(4, ("b" * 100, "a" * 100, "c" * 100, "D" * 100)), 10 ** 8)
        self.assertEqual(determinant(4, ("a", "b", "c", "abcABC")), 0)


class Value(unittest.TestCase):
    def test_against_products(self):
        for rank in RANKS:
            for tables in all_tables(rank):
                for word in words_of(rank):
                    made = value(rank, tables, word)
                    self.assertEqual(made, plain_value(rank, tables, word))
                    (p, q), (u, v) = made
                    self.assertEqual(p * v - q * u, 1)
                    self.assertEqual([type(made), type(made[0]), type(made[1])], [tuple] * 3)
                    self.assertEqual([type(number) for number in (p, q, u, v)], [int] * 4)

    def test_the_empty_word_and_letters(self):
        for rank in RANKS:
            for tables in all_tables(rank):
                self.assertEqual(value(rank, tables, ""), ONE)
                for letter, table in zip(BASE[rank], tables):
                    (p, q), (u, v) = table
                    self.assertEqual(value(rank, tables, letter), table)
                    self.assertEqual(value(rank, tables, letter.upper()), ((v, -q), (-u, p)))

    def test_products_and_inverses(self):
        for rank in RANKS:
            for k, tables in enumerate(all_tables(rank)):
                one, other = some_word(k, rank, 9), some_word(k + 70, rank, 14)
                both = plain_times(value(rank, tables, one), value(rank, tables, other))
                self.assertEqual(value(rank, tables, plain_reduce(one + other)), both)
                back = plain_times(value(rank, tables, one), value(rank, tables, plain_inverse(one)))
                self.assertEqual(back, ONE)


class Trace(unittest.TestCase):
    def test_against_products(self):
        for rank in RANKS:
            for tables in all_tables(rank):
                for word in words_of(rank):
                    made = trace(rank, tables, word)
                    lines = plain_value(rank, tables, word)
                    self.assertEqual(made, lines[0][0] + lines[1][1])
                    self.assertIs(type(made), int)

    def test_the_empty_word(self):
        for rank in RANKS:
            for tables in all_tables(rank):
                self.assertEqual(trace(rank, tables, ""), 2)

    def test_a_word_its_ring_and_its_rotations(self):
        for rank in RANKS:
            for k, tables in enumerate(all_tables(rank)):
                for seed in range(6):
                    word = some_word(seed + k, rank, 1 + 4 * seed)
                    made = trace(rank, tables, word)
                    ring = plain_ring(word)
                    self.assertEqual(trace(rank, tables, ring), made)
                    for other in rotations(ring):
                        self.assertEqual(trace(rank, tables, other), made)
                    self.assertEqual(trace(rank, tables, plain_inverse(word)), made)
                    ends = some_word(seed + 31, rank, 8)
                    longer = plain_reduce(ends + word + plain_inverse(ends))
                    self.assertEqual(trace(rank, tables, longer), made)


class Carried(unittest.TestCase):
    def test_against_products(self):
        for rank in RANKS:
            for k, tables in enumerate(all_tables(rank)):
                for images in substitutions(rank)[k % 3::3]:
                    made = carried(rank, tables, images)
                    self.assertEqual(made, tuple(plain_value(rank, tables, word) for word in images))
                    self.assertIs(type(made), tuple)

    def test_the_identity(self):
        for rank in RANKS:
            for tables in all_tables(rank):
                self.assertEqual(carried(rank, tables, plain_identity(rank)), tables)
                self.assertEqual(carried(rank, tables, ("",) * rank), (ONE,) * rank)

    def test_compositions(self):
        for rank in RANKS:
            for k, tables in enumerate(all_tables(rank)):
                outer, inner = some_automorphism(k, rank, 8), some_automorphism(k + 90, rank, 8)
                both = plain_compose(outer, inner)
                self.assertLessEqual(max(len(word) for word in both), 100)
                self.assertEqual(carried(rank, carried(rank, tables, outer), inner), carried(rank, tables, both))

    def test_fact_6(self):
        for rank in RANKS:
            for k, tables in enumerate(all_tables(rank)):
                for images in [some_automorphism(k, rank, 8), NONE[rank][k % 6], conjugation(rank, "aB")]:
                    for seed in range(4):
                        word = some_word(seed + k, rank, 4 * seed)
                        longer = plain_image(images, word)
                        if len(longer) <= 100:
                            new = carried(rank, tables, images)
                            self.assertEqual(value(rank, new, word), value(rank, tables, longer))
                            self.assertEqual(trace(rank, new, word), trace(rank, tables, longer))


class WrongTables(unittest.TestCase):
    def test_values_that_are_no_tables(self):
        for rank in RANKS:
            for tables in bad_tables(rank):
                self.assertRaises(BadTables, value, rank, tables, "a")
                self.assertRaises(BadTables, trace, rank, tables, "a")
                self.assertRaises(BadTables, carried, rank, tables, plain_identity(rank))

    def test_tables_of_other_ranks(self):
        for rank in RANKS:
            for other in RANKS:
                if other != rank:
                    self.assertRaises(BadTables, value, rank, (ONE,) * other, "a")

    def test_large_integers(self):
        large = 10 ** 999
        tables = (((large, large - 1), (1, 1)), ((1, -large), (0, 1)))
        self.assertEqual(trace(2, tables, "a"), large + 1)
        self.assertEqual(value(2, tables, "ab"), plain_value(2, tables, "ab"))
        self.assertRaises(BadTables, value, 2, (((large, large), (1, 1)), ONE), "a")


if __name__ == "__main__":
    unittest.main()
