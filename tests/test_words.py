"""Points 4 to 6: letters, words, reducing, inverses and products."""

import unittest

from reference import (
    all_texts, all_words, bad_words, not_strings, plain_inverse, plain_is_word, plain_reduce, some_word, texts_beyond,
)
from ringleast.errors import BadWord, TooLong
from ringleast.words import inverse, is_word, letters, product, reduce_text

LONGEST = {2: 6, 3: 4, 4: 3}


class Letters(unittest.TestCase):
    def test_each_rank(self):
        self.assertEqual(letters(2), "aAbB")
        self.assertEqual(letters(3), "aAbBcC")
        self.assertEqual(letters(4), "aAbBcCdD")


class IsWord(unittest.TestCase):
    def test_all_short_strings(self):
        for rank, longest in LONGEST.items():
            for text in all_texts(4, 3) + all_texts(rank, longest):
                self.assertIs(is_word(rank, text), plain_is_word(rank, text), (rank, text))

    def test_lengths(self):
        for rank in (2, 3, 4):
            self.assertIs(is_word(rank, ""), True)
            for text in ("a" * 100, "ab" * 50, "aB" * 50, some_word(1, rank, 100)):
                self.assertIs(is_word(rank, text), True)
            for text in ("a" * 101, "ab" * 50 + "a", some_word(1, rank, 101), "a" * 20000):
                self.assertIs(is_word(rank, text), False)

    def test_an_inverse_pair_at_any_place(self):
        for k in range(99):
            self.assertIs(is_word(2, "a" * k + "bB" + "a" * (98 - k)), False)

    def test_letters_beyond_the_rank(self):
        for letter, least in [("a", 2), ("B", 2), ("c", 3), ("C", 3), ("d", 4), ("D", 4)]:
            for rank in (2, 3, 4):
                self.assertIs(is_word(rank, letter), rank >= least)
                self.assertIs(is_word(rank, "ab" + letter), rank >= least and letter != "B")

    def test_other_values(self):
        for rank in (2, 3, 4):
            for thing in bad_words(rank):
                self.assertIs(is_word(rank, thing), False, repr(thing)[:50])


class Inverse(unittest.TestCase):
    def test_all_short_words(self):
        for rank, longest in LONGEST.items():
            for word in all_words(rank, longest):
                self.assertEqual(inverse(rank, word), plain_inverse(word))

    def test_longest_words(self):
        for rank in (2, 3, 4):
            word = some_word(rank, rank, 100)
            self.assertEqual(inverse(rank, word), plain_inverse(word))
            self.assertEqual(inverse(rank, inverse(rank, word)), word)
            self.assertEqual(product(rank, word, inverse(rank, word)), "")

    def test_wrong_words(self):
        for rank in (2, 3, 4):
            for word in bad_words(rank):
                with self.assertRaises(BadWord):
                    inverse(rank, word)


class ReduceText(unittest.TestCase):
    def test_all_short_strings(self):
        for rank, longest in LONGEST.items():
            for text in all_texts(rank, longest):
                self.assertEqual(reduce_text(rank, text), plain_reduce(text))

    def test_words_stay(self):
        for word in all_words(2, 5) + [some_word(3, 2, 100)]:
            self.assertEqual(reduce_text(2, word), word)

    def test_long_strings(self):
        for rank in (2, 3, 4):
            for size in (100, 1000, 9950):
                word = some_word(size, rank, size)
                text = word + plain_inverse(word)
                self.assertEqual(reduce_text(rank, text), "")
                self.assertEqual(reduce_text(rank, "a" * 50 + text + "b" * 50), "a" * 50 + "b" * 50)
            self.assertEqual(reduce_text(rank, "aAbBBb" * 3000), "")
            self.assertEqual(reduce_text(rank, "a" * 10000 + "A" * 9999), "a")

    def test_results_of_100_and_101_letters(self):
        for rank in (2, 3, 4):
            word = some_word(7, rank, 101)
            self.assertEqual(reduce_text(rank, word[:100]), word[:100])
            self.assertEqual(reduce_text(rank, "aA" * 500 + word[:50] + "bB" * 500 + word[50:100]), word[:100])
            for text in (word, "aA" * 500 + word, word[:50] + "bB" + word[50:], "b" * 20000):
                with self.assertRaises(TooLong) as caught:
                    reduce_text(rank, text)
                self.assertEqual(caught.exception.limit, 100)

    def test_wrong_texts(self):
        for rank in (2, 3, 4):
            for text in not_strings() + texts_beyond(rank):
                with self.assertRaises(BadWord):
                    reduce_text(rank, text)

    def test_letters_are_checked_before_deleting_and_before_the_limit(self):
        for text in ("cC", "acCa", "abBxXA", "a" * 101 + "c", "c" + "a" * 500, "a" * 19999 + "."):
            with self.assertRaises(BadWord):
                reduce_text(2, text)


class Product(unittest.TestCase):
    def test_all_short_words(self):
        for rank, longest in [(2, 3), (3, 2), (4, 2)]:
            words = all_words(rank, longest)
            for one in words:
                for other in words:
                    self.assertEqual(product(rank, one, other), plain_reduce(one + other))

    def test_all_letters_cancel(self):
        for rank in (2, 3, 4):
            for size in (0, 1, 2, 50, 99, 100):
                word = some_word(size, rank, size)
                self.assertEqual(product(rank, word, plain_inverse(word)), "")
                self.assertEqual(product(rank, plain_inverse(word), word), "")

    def test_results_of_100_and_101_letters(self):
        for one, other in [
            ("a" * 100, ""), ("", "b" * 100), ("a" * 50, "b" * 50), ("a" * 99, "b"),
            ("a" * 75 + "b" * 25, "B" * 25 + "a" * 25), ("a" * 50 + "b" * 50, "B" * 50 + "a" * 50),
        ]:
            self.assertEqual(product(2, one, other), plain_reduce(one + other))
            self.assertEqual(len(product(2, one, other)), 100)
        for one, other in [
            ("a" * 100, "b"), ("B", "a" * 100), ("a" * 51, "b" * 50), ("a" * 100, "b" * 100),
            ("a" * 75 + "b" * 25, "B" * 25 + "a" * 26), ("a" * 51 + "b" * 49, "B" * 49 + "a" * 50),
        ]:
            with self.assertRaises(TooLong) as caught:
                product(2, one, other)
            self.assertEqual(caught.exception.limit, 100)

    def test_wrong_words(self):
        for rank in (2, 3, 4):
            for word in bad_words(rank):
                for one, other in [(word, "a"), ("a", word), (word, ""), ("", word), (word, word)]:
                    with self.assertRaises(BadWord):
                        product(rank, one, other)


if __name__ == "__main__":
    unittest.main()
