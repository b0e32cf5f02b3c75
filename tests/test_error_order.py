"""Point 31: parameters are checked from left to right, and limits after all parameters."""

import unittest

from reference import bad_ranks, bad_words, not_strings, texts_beyond
from ringleast.errors import BadRank, BadWord, TooLong
from ringleast.rings import is_ring, is_row, ring_of
from ringleast.words import inverse, is_word, letters, product, reduce_text

GOOD_WORDS = ["", "a", "abAB", "a" * 100]


class RankComesFirst(unittest.TestCase):
    def test_rank_alone(self):
        for rank in bad_ranks():
            for _ in range(2):
                self.assertRaises(BadRank, letters, rank)
                self.assertRaises(BadRank, letters, rank=rank)

    def test_rank_before_one_word(self):
        for rank in bad_ranks():
            for value in GOOD_WORDS + bad_words(2):
                for function, name in [(inverse, "word"), (ring_of, "word"), (reduce_text, "text")]:
                    self.assertRaises(BadRank, function, rank, value)
                    self.assertRaises(BadRank, function, **{name: value, "rank": rank})

    def test_rank_before_two_words(self):
        for rank in bad_ranks():
            for one in GOOD_WORDS + not_strings():
                for other in ("b", None, ["a"], "aA", "b" * 100):
                    self.assertRaises(BadRank, product, rank, one, other)
                    self.assertRaises(BadRank, product, other=other, one=one, rank=rank)

    def test_rank_before_thing(self):
        things = GOOD_WORDS + [("ab",), ("ab", "a"), ("",), ["ab"]] + bad_words(2)
        for rank in bad_ranks():
            for thing in things:
                for function in (is_word, is_ring, is_row):
                    self.assertRaises(BadRank, function, rank, thing)
                    self.assertRaises(BadRank, function, thing=thing, rank=rank)

    def test_only_ranks_from_2_to_4_are_taken(self):
        for rank in (2, 3, 4):
            self.assertEqual(len(letters(rank)), 2 * rank)
            for function in (is_word, is_ring):
                self.assertIs(function(rank, "a"), True)
            self.assertIs(is_row(rank, ("a",)), True)


class LimitsComeLast(unittest.TestCase):
    def test_product(self):
        for word in bad_words(2):
            for good in ("b" * 100, "b", ""):
                self.assertRaises(BadWord, product, 2, good, word)
                self.assertRaises(BadWord, product, 2, word, good)
        self.assertRaises(BadWord, product, 2, "a" * 101, "")
        self.assertRaises(BadWord, product, 2, "", "a" * 101)
        self.assertRaises(BadWord, product, 2, "a" * 101, "A" * 100)
        self.assertRaises(TooLong, product, 2, "a" * 100, "b")
        self.assertRaises(TooLong, product, rank=2, other="a" * 100, one="b")

    def test_reduce_text(self):
        for text in texts_beyond(2):
            self.assertRaises(BadWord, reduce_text, 2, text)
            self.assertRaises(BadWord, reduce_text, 2, text + "a" * 200)
            self.assertRaises(BadWord, reduce_text, 2, "a" * 200 + text)
        self.assertRaises(TooLong, reduce_text, 2, "a" * 200)

    def test_words_depend_on_the_rank(self):
        for function in (inverse, ring_of, reduce_text):
            self.assertRaises(BadWord, function, 2, "abc")
            self.assertRaises(BadWord, function, 3, "abcd")
            self.assertIsInstance(function(4, "abcd"), str)


class ThingsRaiseNothing(unittest.TestCase):
    def test_all_kinds(self):
        for rank in (2, 3, 4):
            for thing in bad_words(rank):
                for function in (is_word, is_ring, is_row):
                    self.assertIs(function(rank, thing), False, repr(thing)[:50])
                self.assertIs(is_row(rank, (thing,)), False)
                self.assertIs(is_row(rank, [thing]), False)

    def test_nested_forty_levels(self):
        for pack in (lambda x: [x], lambda x: (x,), lambda x: {"a": x}, lambda x: ("a", x)):
            thing = "ab"
            for _ in range(39):
                thing = pack(thing)
            for function in (is_word, is_ring, is_row):
                self.assertIs(function(2, thing), False)
            for function in (inverse, ring_of, reduce_text):
                self.assertRaises(BadWord, function, 2, thing)


if __name__ == "__main__":
    unittest.main()
