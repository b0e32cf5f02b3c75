"""Points 26 and 27: pairs and their rings, and signs."""

import unittest
from math import gcd

from plain import (
    all_relabelings, all_steps, plain_compose, plain_generates, plain_image, plain_sign, plain_substitution,
    plain_total,
)
from plain_levels import plain_least_row
from reference import all_words, plain_is_ring, plain_ring
from ringleast.errors import BadPair, BadSubstitution
from ringleast.rank_two import pair_ring, sign
from ringleast.separation import primitive
from ringleast.shadows import determinant, exponents
from ringleast.substitutions import is_automorphism
from samples import NONE, automorphisms, some_automorphism, some_route
from wrong import bad_pairs, bad_substitutions


def all_pairs(most):
    """All pairs with absolute values that add up to at most `most`."""
    near = range(-most, most + 1)
    return [(p, q) for p in near for q in near if 1 <= abs(p) + abs(q) <= most and gcd(abs(p), abs(q)) == 1]


def plain_pair_ring(p, q):
    """The ring of a pair from the words of point 26."""
    word = ""
    n = abs(p) + abs(q)
    for i in range(n):
        if (i + 1) * abs(p) // n > i * abs(p) // n:
            word += "A" if p < 0 else "a"
        else:
            word += "B" if q < 0 else "b"
    return plain_ring(word)


class PairRing(unittest.TestCase):
    def check(self, pair):
        made = pair_ring(pair)
        self.assertEqual(made, plain_pair_ring(*pair), pair)
        self.assertTrue(plain_is_ring(2, made))
        self.assertEqual(exponents(2, made), pair)
        self.assertEqual(len(made), abs(pair[0]) + abs(pair[1]))
        return made

    def test_all_pairs_up_to_20(self):
        pairs = all_pairs(20)
        self.assertGreater(len(pairs), 400)
        for pair in pairs:
            self.check(pair)

    def test_primitive(self):
        for pair in all_pairs(9):
            self.assertEqual(primitive(2, self.check(pair))[0], "primitive", pair)
        for pair in [(7, 12), (-13, 8), (1, -59), (-29, -31), (47, 13), (59, 1)]:
            self.assertEqual(primitive(2, self.check(pair))[0], "primitive", pair)

    def test_no_other_primitive_ring_has_these_exponents(self):
        rings = [word for word in all_words(2, 7)[1:] if plain_is_ring(2, word)]
        found = {}
        for ring in rings:
            if sum(len(part) for part in plain_least_row(2, (ring,))) == 1:
                self.assertNotIn(exponents(2, ring), found)
                found[exponents(2, ring)] = ring
        self.assertEqual(found, {pair: pair_ring(pair) for pair in all_pairs(7)})

    def test_all_signs_and_zero(self):
        known = {
            (1, 0): "a", (-1, 0): "A", (0, 1): "b", (0, -1): "B", (2, 1): "aab", (-2, 1): "AAb", (2, -1): "aaB",
            (-2, -1): "AAB", (1, 1): "ab", (-1, 1): "Ab", (1, -1): "aB", (-1, -1): "AB", (3, 5): "ababbabb",
        }
        for pair, ring in known.items():
            self.assertEqual(pair_ring(pair), ring)

    def test_sums_of_60_and_61(self):
        pairs = [pair for pair in all_pairs(61) if abs(pair[0]) + abs(pair[1]) >= 60]
        self.assertGreater(len(pairs), 100)
        for pair in pairs:
            if abs(pair[0]) + abs(pair[1]) == 60:
                self.check(pair)
            else:
                self.assertRaises(BadPair, pair_ring, pair)

    def test_common_divisors(self):
        for p in range(-30, 31):
            for q in range(-30, 31):
                if gcd(p, q) != 1:
                    self.assertRaises(BadPair, pair_ring, (p, q))

    def test_values_that_are_no_pairs(self):
        for pair in bad_pairs():
            self.assertRaises(BadPair, pair_ring, pair)
            self.assertRaises(BadPair, pair_ring, pair=pair)
            if not isinstance(pair, tuple):
                continue
            self.assertRaises(BadPair, pair_ring, list(pair))


class Sign(unittest.TestCase):
    def check(self, images):
        made = sign(images)
        self.assertIs(type(made), int)
        self.assertEqual(made, plain_sign(images), images)
        self.assertIs(is_automorphism(2, images), made != 0)
        if made != 0:
            self.assertEqual(made, determinant(2, images))
        return made

    def test_steps(self):
        for step in all_steps(2):
            made = self.check(plain_substitution(2, step))
            self.assertIn(made, (1, -1))
            if step[0] == "move":
                self.assertEqual(made, 1)
        self.assertEqual(sum(sign(plain_substitution(2, step)) for step in all_relabelings(2)), 0)

    def test_totals_of_routes(self):
        for seed in range(40):
            route = some_route(seed, 2, 9)
            images = plain_total(2, route)
            if max(len(word) for word in images) > 100:
                continue
            expected = 1
            for step in route:
                expected *= sign(plain_substitution(2, step))
            self.assertEqual(self.check(images), expected)

    def test_automorphisms(self):
        for images in automorphisms(2):
            self.assertNotEqual(self.check(images), 0)

    def test_compositions(self):
        for seed in range(30):
            outer, inner = some_automorphism(seed, 2, 9), some_automorphism(seed + 60, 2, 9)
            self.assertEqual(self.check(plain_compose(outer, inner)), sign(outer) * sign(inner))
            none = NONE[2][seed % len(NONE[2])]
            both = plain_compose(outer, none)
            if max(len(word) for word in both) <= 100:
                self.assertEqual(self.check(both), 0)

    def test_no_automorphisms(self):
        for images in NONE[2]:
            self.assertEqual(self.check(images), 0)

    def test_an_empty_product(self):
        empty = [("", ""), ("", "b"), ("a", ""), ("a", "a"), ("a", "A"), ("aa", "a"), ("abab", "BA"), ("a" * 100, "a")]
        for images in empty:
            self.assertEqual(plain_image(images, "abAB"), "")
            self.assertEqual(self.check(images), 0)

    def test_all_pairs_of_short_words(self):
        words = all_words(2, 2)
        found = []
        for one in words:
            for other in words:
                found.append(self.check((one, other)))
                self.assertEqual(found[-1] != 0, plain_generates(2, (one, other)))
        self.assertEqual(found.count(1), found.count(-1))
        self.assertGreater(found.count(1), 10)

    def test_long_images(self):
        for images in [("a" * 100, "b" * 100), ("ab" * 50, "Ba" * 50), ("a", "a" * 99 + "b"), ("b", "b" * 99 + "a")]:
            self.check(images)
        self.assertEqual(sign(("a", "a" * 99 + "b")), 1)
        self.assertEqual(sign(("b", "b" * 99 + "a")), -1)

    def test_products_with_the_ring_of_another_power(self):
        # The rings of these products have the letters of abAB several times, or other exponents.
        self.assertEqual(sign(("aa", "b")), 0)
        self.assertEqual(sign(("aa", "bb")), 0)
        self.assertEqual(sign(("ab", "ba")), 0)

    def test_wrong_values(self):
        for images in bad_substitutions(2):
            self.assertRaises(BadSubstitution, sign, images)
        self.assertRaises(BadSubstitution, sign, substitution=("a", "b", "c"))
        self.assertRaises(BadSubstitution, sign, substitution=("a", "c"))


if __name__ == "__main__":
    unittest.main()
