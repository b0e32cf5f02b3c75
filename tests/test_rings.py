"""Points 6 to 8: rings, the ring of a word, and rows."""

import unittest

from reference import (
    all_texts, all_words, bad_words, not_strings, plain_inverse, plain_is_ring, plain_reduce, plain_ring, rotations,
    some_word,
)
from ringleast.errors import BadWord
from ringleast.rings import is_ring, is_row, ring_of

LONGEST = {2: 6, 3: 4, 4: 3}
RINGS = ("a", "B", "ab", "Ab", "aab", "abAB", "aabb", "aabAB", "aBBaBAAB", "abaBAAbb")


def some_ring(seed, rank, size):
    """A ring with `size` letters: the seed is raised until the ends of the word are not inverses."""
    while len(plain_ring(some_word(seed, rank, size))) < size:
        seed += 1
    return plain_ring(some_word(seed, rank, size))


class IsRing(unittest.TestCase):
    def test_all_short_strings(self):
        for rank, longest in LONGEST.items():
            for text in all_texts(4, 3) + all_texts(rank, longest):
                self.assertIs(is_ring(rank, text), plain_is_ring(rank, text), (rank, text))

    def test_rotations_inverses_and_powers(self):
        words = list(RINGS) + [some_ring(seed, 2, 12) for seed in range(20)]
        for ring in words:
            for power in (1, 2, 3, 5):
                for word in (ring * power, plain_inverse(ring) * power):
                    for turn in rotations(word):
                        self.assertIs(is_ring(2, turn), plain_is_ring(2, turn), turn)
                    self.assertEqual(len({turn for turn in rotations(word) if is_ring(2, turn)}), 1)

    def test_one_letter(self):
        for letter in "aAbB":
            self.assertIs(is_ring(2, letter), True)
        for letter in "cCdD":
            self.assertIs(is_ring(2, letter), False)
            self.assertIs(is_ring(4, letter), True)

    def test_letter_order_decides(self):
        for ring, turned in [("aB", "Ba"), ("Ab", "bA"), ("bC", "Cb"), ("cD", "Dc"), ("aaB", "aBa")]:
            self.assertIs(is_ring(4, ring), True, ring)
            self.assertIs(is_ring(4, turned), False, turned)
        self.assertIs(is_ring(2, "Ab"), True)
        self.assertIs(is_ring(3, "Bc"), True)

    def test_lengths(self):
        self.assertIs(is_ring(2, ""), False)
        for rank in (2, 3, 4):
            for ring in ("a" * 61, "a" * 100, "B" * 100, "ab" * 50, some_ring(5, rank, 100)):
                self.assertIs(is_ring(rank, ring), True)
            for ring in ("a" * 101, "B" * 101, "a" * 51 + "b" * 50):
                self.assertIs(is_ring(rank, ring), False)

    def test_other_values(self):
        for rank in (2, 3, 4):
            for thing in bad_words(rank):
                self.assertIs(is_ring(rank, thing), False, repr(thing)[:50])


class RingOf(unittest.TestCase):
    def test_the_empty_word(self):
        for rank in (2, 3, 4):
            self.assertEqual(ring_of(rank, ""), "")

    def test_all_short_words(self):
        for rank, longest in LONGEST.items():
            for word in all_words(rank, longest):
                if word:
                    self.assertEqual(ring_of(rank, word), plain_ring(word))
                    self.assertIs(is_ring(rank, ring_of(rank, word)), True)

    def test_words_between_a_word_and_its_inverse(self):
        for ring in RINGS:
            for outer in all_words(2, 4):
                word = plain_reduce(outer + ring + plain_inverse(outer))
                self.assertEqual(ring_of(2, word), plain_ring(ring), (outer, ring))

    def test_rotations_and_powers(self):
        for ring in [some_ring(seed, 3, 15) for seed in range(20)]:
            for power in (1, 2, 4):
                for turn in rotations(ring * power):
                    self.assertEqual(ring_of(3, turn), ring * power)

    def test_longest_words(self):
        self.assertEqual(ring_of(2, "b" * 50 + "a" * 50), "a" * 50 + "b" * 50)
        self.assertEqual(ring_of(2, "a" * 49 + "bb" + "A" * 49), "bb")
        self.assertEqual(ring_of(2, "A" * 50 + "b" + "a" * 49), "Ab")
        self.assertEqual(ring_of(2, "ba" * 50), "ab" * 50)
        for rank in (2, 3, 4):
            word = some_word(9, rank, 100)
            self.assertEqual(ring_of(rank, word), plain_ring(word))

    def test_wrong_words(self):
        for rank in (2, 3, 4):
            for word in bad_words(rank):
                with self.assertRaises(BadWord):
                    ring_of(rank, word)


class IsRow(unittest.TestCase):
    def test_numbers_of_rings(self):
        for rank in (2, 3, 4):
            self.assertIs(is_row(rank, ()), False)
            for count in (1, 2, 3, 4):
                self.assertIs(is_row(rank, ("ab",) * count), True)
                self.assertIs(is_row(rank, ("B", "a", "Ab", "aB")[:count]), True)
            for count in (5, 6, 100):
                self.assertIs(is_row(rank, ("a",) * count), False)

    def test_lengths(self):
        for sizes in [(60,), (30, 30), (1, 59), (20, 20, 20), (57, 1, 1, 1), (15, 15, 15, 15)]:
            self.assertIs(is_row(2, tuple("a" * size for size in sizes)), True)
            self.assertIs(is_row(2, tuple(some_ring(3, 2, size) for size in sizes)), True)
        for sizes in [(61,), (100,), (30, 31), (1, 60), (20, 20, 21), (58, 1, 1, 1), (15, 16, 15, 15), (60,) * 4]:
            self.assertIs(is_row(2, tuple("a" * size for size in sizes)), False)
            self.assertIs(is_row(2, tuple(some_ring(3, 2, size) for size in sizes)), False)

    def test_each_item_is_a_ring(self):
        for text in all_texts(2, 4):
            self.assertIs(is_row(2, (text,)), plain_is_ring(2, text))
            self.assertIs(is_row(2, ("a", text)), plain_is_ring(2, text))
            self.assertIs(is_row(2, (text, "a", "b")), plain_is_ring(2, text))

    def test_letters_beyond_the_rank(self):
        self.assertIs(is_row(2, ("ab", "c")), False)
        self.assertIs(is_row(3, ("ab", "c")), True)
        self.assertIs(is_row(3, ("ab", "cD")), False)
        self.assertIs(is_row(4, ("ab", "cD")), True)

    def test_an_empty_string(self):
        for row in [("",), ("", "a"), ("a", ""), ("a", "b", "", "ab")]:
            self.assertIs(is_row(2, row), False)

    def test_other_kinds(self):
        for thing in not_strings() + ["a", "ab", "", ["ab"], ["ab", "a"], [("ab",)], {"ab": "a"}, {"ab"}]:
            self.assertIs(is_row(2, thing), False, repr(thing)[:50])
        for item in bad_words(2):
            for thing in [(item,), ("a", item), (item, "a"), ("a", "b", "ab", item)]:
                self.assertIs(is_row(2, thing), False, repr(thing)[:50])


if __name__ == "__main__":
    unittest.main()
