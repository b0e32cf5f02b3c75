"""Points 9, 10 and 27 (Fact 8): images, compositions, automorphisms and their inverses."""

import unittest

from plain import (
    RANKS, all_steps, plain_compose, plain_generates, plain_identity, plain_image, plain_ring, plain_row, plain_sign,
    row_size,
)
from reference import all_words, plain_inverse, plain_reduce, some_word
from ringleast.errors import NotInvertible, TooLong
from ringleast.substitutions import apply, compose, image, is_automorphism, undo
from ringleast.words import is_word
from samples import NONE, automorphisms, conjugation, some_automorphism, some_row, some_rows

# A long inverse from short images: c goes to (B a^10)^45 c.
STEEP = ("a", "a" * 10 + "b", "b" * 45 + "c")

def short_substitutions(longest):
    words = all_words(2, longest)
    return [(one, other) for one in words for other in words]


class Image(unittest.TestCase):
    def test_short_substitutions_and_words(self):
        for substitution in short_substitutions(2):
            for word in all_words(2, 3):
                self.assertEqual(image(2, substitution, word), plain_image(substitution, word))

    def test_all_ranks(self):
        for rank in RANKS:
            for seed in range(40):
                images = tuple(some_word(seed + k, rank, (seed * k) % 8) for k in range(rank))
                word = some_word(seed, rank, 12)
                self.assertEqual(image(rank, images, word), plain_image(images, word))

    def test_empty_images(self):
        for word in all_words(2, 4):
            self.assertEqual(image(2, ("", ""), word), "")
            self.assertEqual(image(2, ("", "b"), word), plain_image(("", "b"), word))
            self.assertEqual(image(2, ("ab", ""), word), plain_image(("ab", ""), word))
        for rank in RANKS:
            for substitution in NONE[rank]:
                self.assertEqual(image(rank, substitution, ""), "")

    def test_the_identity(self):
        for rank in RANKS:
            for size in (0, 1, 50, 100):
                word = some_word(3, rank, size)
                self.assertEqual(image(rank, plain_identity(rank), word), word)

    def test_100_and_101_letters(self):
        for substitution, word in [
            (("a" * 100, "b"), "a"), (("a" * 50, "b" * 50), "ab"), (("a" * 99, "b"), "aB"),
            (("ab", "b"), "aB" + "ab" * 33),
            (("aa", "b"), "a" * 50), (("a" * 60 + "b" * 20, "B" * 20 + "a" * 40), "ab"),
        ]:
            made = image(2, substitution, word)
            self.assertEqual(len(made), 100, (substitution, word))
            self.assertEqual(made, plain_image(substitution, word))
        for substitution, word in [
            (("a" * 100, "b"), "ab"), (("a" * 50, "b" * 51), "ab"), (("aab", "b"), "ab" * 25 + "a"),
            (("a" * 60 + "b" * 20, "B" * 20 + "a" * 41), "ab"), (("a" * 100, "b" * 100), "ab" * 50),
        ]:
            self.assertGreater(len(plain_image(substitution, word)), 100)
            with self.assertRaises(TooLong) as caught:
                image(2, substitution, word)
            self.assertEqual(caught.exception.limit, 100)
        self.assertEqual(len(plain_image(("a" * 50, "b" * 51), "ab")), 101)

    def test_only_the_image_itself_is_limited(self):
        self.assertEqual(image(2, ("a" * 60, "A" * 60), "aab"), "a" * 60)
        self.assertEqual(image(2, ("a" * 60, "A" * 60), "aabb"), "")
        self.assertEqual(image(2, ("a" * 100, "A" * 100), "a" * 50 + "b" * 50), "")
        word = some_word(2, 4, 100)
        outer = (word, plain_inverse(word), "c", "d")
        self.assertEqual(image(4, outer, "aaaabbbb"), "")
        self.assertEqual(image(4, outer, "cabcaabbd"), "ccd")
        self.assertEqual(image(4, outer, "aab"), word)


class Compose(unittest.TestCase):
    def test_short_substitutions(self):
        some = short_substitutions(2)
        for outer in some[::5]:
            for inner in some[::7]:
                self.assertEqual(compose(2, outer, inner), plain_compose(outer, inner))

    def test_all_ranks(self):
        for rank in RANKS:
            for seed in range(30):
                outer = some_automorphism(seed, rank, 8)
                inner = some_automorphism(seed + 1000, rank, 8)
                self.assertEqual(compose(rank, outer, inner), plain_compose(outer, inner))

    def test_the_order_matters(self):
        self.assertEqual(compose(2, ("b", "a"), ("ab", "b")), ("ba", "a"))
        self.assertEqual(compose(2, ("ab", "b"), ("b", "a")), ("b", "ab"))

    def test_the_identity(self):
        for rank in RANKS:
            for substitution in NONE[rank] + automorphisms(rank)[:20]:
                self.assertEqual(compose(rank, plain_identity(rank), substitution), substitution)
                self.assertEqual(compose(rank, substitution, plain_identity(rank)), substitution)

    def test_empty_images(self):
        self.assertEqual(compose(2, ("", ""), ("ab", "b")), ("", ""))
        self.assertEqual(compose(2, ("ab", "b"), ("", "")), ("", ""))
        self.assertEqual(compose(2, ("ab", "BA"), ("ab", "b")), ("", "BA"))

    def test_100_and_101_letters(self):
        self.assertEqual(compose(2, ("a" * 50, "b" * 50), ("ab", "b")), ("a" * 50 + "b" * 50, "b" * 50))
        for outer, inner in [
            (("a" * 50, "b" * 51), ("ab", "b")), (("a" * 50, "b" * 51), ("b", "ab")),
            (("a" * 50, "b" * 51), ("", "BA")),
        ]:
            with self.assertRaises(TooLong) as caught:
                compose(2, outer, inner)
            self.assertEqual(caught.exception.limit, 100)

    def test_only_the_images_themselves_are_limited(self):
        self.assertEqual(compose(2, ("a" * 60, "A" * 60), ("aabb", "aab")), ("", "a" * 60))
        self.assertEqual(compose(2, ("a" * 100, "A" * 100), ("a" * 50 + "b" * 50, "b" * 50 + "a" * 50)), ("", ""))


class IsAutomorphism(unittest.TestCase):
    def test_totals_of_routes(self):
        for rank in RANKS:
            for substitution in automorphisms(rank):
                self.assertIs(is_automorphism(rank, substitution), True, substitution)

    def test_others(self):
        for rank in RANKS:
            for substitution in NONE[rank]:
                self.assertIs(is_automorphism(rank, substitution), False, substitution)
                if sum(len(word) for word in substitution) < 60:
                    self.assertIs(plain_generates(rank, substitution), False, substitution)

    def test_compositions_with_others(self):
        for rank in RANKS:
            for substitution in NONE[rank]:
                for seed in range(6):
                    good = some_automorphism(seed, rank, 4)
                    for made in (plain_compose(good, substitution), plain_compose(substitution, good)):
                        if all(is_word(rank, word) for word in made):
                            self.assertIs(is_automorphism(rank, made), False, (good, substitution))

    def test_short_substitutions_of_rank_2(self):
        count = 0
        for substitution in short_substitutions(3):
            made = is_automorphism(2, substitution)
            self.assertIs(made, plain_sign(substitution) != 0, substitution)
            self.assertIs(made, plain_generates(2, substitution), substitution)
            count += made
        self.assertGreater(count, 100)

    def test_the_sign_of_long_substitutions_of_rank_2(self):
        for seed in range(40):
            one = some_automorphism(seed, 2, 40)
            self.assertNotEqual(plain_sign(one), 0)
            for k in range(len(one[0])):
                changed = (plain_reduce(one[0][:k] + "b" + one[0][k + 1:]), one[1])
                self.assertIs(is_automorphism(2, changed), plain_sign(changed) != 0, changed)

    def test_short_substitutions_of_rank_3(self):
        words = all_words(3, 2)
        count = 0
        for one in ("a", "ab", "Ca", "bb"):
            for other in words:
                for third in words:
                    made = is_automorphism(3, (one, other, third))
                    self.assertIs(made, plain_generates(3, (one, other, third)), (one, other, third))
                    count += made
        self.assertGreater(count, 100)

    def test_changed_totals(self):
        for rank in RANKS:
            found = []
            for seed in range(60):
                good = list(some_automorphism(seed, rank, 25))
                k = seed % rank
                good[k] = plain_reduce(good[k] + some_word(seed, rank, 1 + seed % 2))
                found.append(is_automorphism(rank, tuple(good)))
                self.assertIs(found[-1], plain_generates(rank, good), good)
            self.assertIn(False, found)

    def test_results_are_exact_for_equal_lengths(self):
        """Words of which no product of two is shorter may still have a shorter product of three."""
        cases = [("ab", "Bc", "Cb"), ("ab", "aB", "c"), ("ab", "Bc", "Ca"), ("ab", "Bc", "CA"), ("abc", "Cb", "Ba")]
        for images in cases:
            self.assertIs(is_automorphism(3, images), plain_generates(3, images), images)


class Undo(unittest.TestCase):
    def test_both_compositions_are_the_identity(self):
        for rank in RANKS:
            count = 0
            for substitution in automorphisms(rank):
                if sum(len(word) for word in substitution) > 100:
                    continue
                try:
                    back = undo(rank, substitution)
                except TooLong:
                    continue
                count += 1
                self.assertIsInstance(back, tuple)
                self.assertTrue(all(is_word(rank, word) for word in back))
                self.assertEqual(plain_compose(substitution, back), plain_identity(rank))
                self.assertEqual(plain_compose(back, substitution), plain_identity(rank))
            self.assertGreater(count, len(all_steps(rank)) + 20)

    def test_the_total_length_comes_first(self):
        for rank, substitution in [
            (2, ("a", "a" * 99 + "b")), (2, ("aa", "b" * 99)), (2, ("a" * 51, "b" * 50)), (2, ("b" * 100, "b")),
            (3, ("a", "b", "b" * 98 + "c")), (3, ("a" * 40, "a" * 40, "a" * 21)), (4, ("a" * 100,) * 4),
            (4, ("a", "b", "c", "c" * 97 + "d")),
        ]:
            self.assertGreater(sum(len(word) for word in substitution), 100)
            with self.assertRaises(TooLong) as caught:
                undo(rank, substitution)
            self.assertEqual(caught.exception.limit, 100)

    def test_100_letters_in_total(self):
        self.assertEqual(undo(2, ("a", "a" * 98 + "b")), ("a", "A" * 98 + "b"))
        self.assertEqual(undo(3, ("a", "b", "b" * 97 + "c")), ("a", "b", "B" * 97 + "c"))
        self.assertEqual(undo(4, ("a", "b", "c", "c" * 96 + "d")), ("a", "b", "c", "C" * 96 + "d"))
        for rank, substitution in [(2, ("a" * 50, "b" * 50)), (2, ("", "b" * 100)), (3, ("a", "b", "c" * 98))]:
            self.assertRaises(NotInvertible, undo, rank, substitution)

    def test_not_invertible(self):
        for rank in RANKS:
            for substitution in NONE[rank]:
                if sum(len(word) for word in substitution) <= 100:
                    self.assertRaises(NotInvertible, undo, rank, substitution)

    def test_images_of_the_inverse(self):
        back = undo(3, ("a", "a" * 10 + "b", "b" * 9 + "c"))
        self.assertEqual(back, ("a", "A" * 10 + "b", ("B" + "a" * 10) * 9 + "c"))
        self.assertEqual(max(len(word) for word in back), 100)
        for substitution in [("a", "a" * 9 + "b", "b" * 10 + "c"), STEEP]:
            with self.assertRaises(TooLong) as caught:
                undo(3, substitution)
            self.assertEqual(caught.exception.limit, 100)

    def test_conjugations(self):
        for rank in RANKS:
            for size in (1, 2, 5, 11):
                word = some_word(size, rank, size)
                self.assertEqual(undo(rank, conjugation(rank, word)), conjugation(rank, plain_inverse(word)))


class Apply(unittest.TestCase):
    def test_against_plain_images(self):
        for rank in RANKS:
            short = [substitution for substitution in automorphisms(rank) if max(map(len, substitution)) <= 10][::9]
            for substitution in short:
                for row in some_rows(rank, 12, 12):
                    expected = plain_row(substitution, row)
                    if row_size(expected) <= 60:
                        self.assertEqual(apply(rank, substitution, row), expected)
                    else:
                        self.assertRaises(TooLong, apply, rank, substitution, row)

    def test_images_above_100_letters_with_short_rings(self):
        for rank in RANKS:
            for size in (30, 48, 49):
                substitution = conjugation(rank, some_word(size, rank, size))
                for row in [("aab",), ("abAB", "b"), ("ab" * 30,), some_row(1, rank, 60), some_row(2, rank, 60, 4)]:
                    self.assertEqual(apply(rank, substitution, row), row)
        self.assertGreater(len(plain_image(conjugation(2, some_word(49, 2, 49)), "ab" * 30)), 100)

    def test_inverses_bring_long_rings_back(self):
        back = ("a", "A" * 30 + "b")
        row = ("a" * 30 + "b", "b")
        self.assertEqual(apply(2, back, ("a" * 30 + "b",)), ("b",))
        self.assertEqual(apply(2, ("a", "a" * 30 + "b"), (plain_ring("A" * 30 + "b"), "a")), ("b", "a"))
        self.assertEqual(apply(2, back, row), ("b", plain_ring("A" * 30 + "b")))

    def test_60_and_61_letters(self):
        self.assertEqual(apply(2, ("a", "a" * 59 + "b"), ("b",)), ("a" * 59 + "b",))
        self.assertEqual(apply(2, ("a", "a" * 29 + "b"), ("b", "b")), ("a" * 29 + "b",) * 2)
        self.assertEqual(apply(4, ("a", "a" * 14 + "b", "c", "d"), ("b",) * 4), ("a" * 14 + "b",) * 4)
        for substitution, row in [
            (("a", "a" * 60 + "b"), ("b",)), (("a", "a" * 99 + "b"), ("b",)), (("a", "a" * 29 + "b"), ("b", "b", "a")),
            (("a", "a" * 99 + "b"), ("b" * 15,) * 4),
        ]:
            with self.assertRaises(TooLong) as caught:
                apply(2, substitution, row)
            self.assertEqual(caught.exception.limit, 60)

    def test_not_invertible_comes_before_the_limit(self):
        for rank in RANKS:
            for substitution in NONE[rank]:
                for row in [("a",), ("b",), ("abAB",), ("ab", "a" * 58), ("a" * 60,), ("b" * 30, "ab" * 15)]:
                    self.assertRaises(NotInvertible, apply, rank, substitution, row)
        self.assertRaises(NotInvertible, apply, 2, ("a" * 61, "b"), ("a",))
        self.assertRaises(NotInvertible, apply, 2, ("a" * 61, "b"), ("b",))

    def test_positions_stay(self):
        self.assertEqual(apply(2, ("b", "a"), ("a", "b", "aab", "b")), ("b", "a", "abb", "a"))
        self.assertEqual(apply(3, ("a", "B", "Ca"), ("c", "b", "ac")), ("aC", "B", plain_ring("aCa")))


class Arguments(unittest.TestCase):
    def test_lists_inside_are_not_taken_and_nothing_changes(self):
        parts = ["ab", "b"]
        for function, others in [(image, ("ab",)), (is_automorphism, ()), (undo, ()), (apply, (("a",),))]:
            with self.assertRaises(ValueError):
                function(2, parts, *others)
            self.assertEqual(parts, ["ab", "b"])

    def test_the_same_call_gives_the_same_result(self):
        for _ in range(3):
            self.assertEqual(image(2, ("ab", "b"), "aB"), "a")
            self.assertEqual(compose(2, ("ab", "b"), ("a", "ba")), ("ab", "bab"))
            self.assertEqual(undo(2, ("ab", "b")), ("aB", "b"))
            self.assertEqual(apply(2, ("ab", "b"), ("aB",)), ("a",))


if __name__ == "__main__":
    unittest.main()
