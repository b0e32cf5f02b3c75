"""Points 17 and 18 for all rings of a length: least rings and their levels."""

import unittest

from plain import is_minimal_row
from plain_levels import literal_level, plain_canonical, plain_level, row_key
from reference import SETS, plain_is_ring, word_key
from ringleast.census import least_rings, orbits
from ringleast.errors import BadRank, BadSize, TooLarge
from wrong import bad_sizes

SIZES = [(2, size) for size in range(1, 7)] + [(3, size) for size in range(1, 6)]


def all_rings(rank, size):
    words = [""]
    for _ in range(size):
        words = [word + x for word in words for x in SETS[rank] if word == "" or word[-1] != x.swapcase()]
    return [word for word in words if plain_is_ring(rank, word)]


def plain_least_rings(rank, size):
    kept = [ring for ring in all_rings(rank, size) if plain_canonical(rank, (ring,)) == (ring,)]
    return tuple(sorted([ring for ring in kept if is_minimal_row(rank, (ring,))], key=word_key))


class LeastRings(unittest.TestCase):
    def test_against_a_search(self):
        for rank, size in SIZES:
            made = least_rings(rank, size)
            self.assertIs(type(made), tuple)
            self.assertEqual(made, plain_least_rings(rank, size), (rank, size))
            self.assertEqual(list(made), sorted(set(made), key=word_key))

    def test_known_rings(self):
        self.assertEqual([least_rings(2, size) for size in (1, 2, 3)], [("a",), ("aa",), ("aaa",)])
        self.assertEqual(least_rings(2, 4), ("aaaa", "aabb", "abaB", "abAB"))
        self.assertEqual(least_rings(3, 5), ("aaaaa", "aaabb", "aabaB", "aabAb", "aabAB"))

    def test_rank_2_and_rank_3(self):
        # A ring over a and b is minimal in rank 3 if it is in rank 2.
        for size in range(1, 6):
            both = [ring for ring in least_rings(3, size) if set(ring.lower()) <= set("ab")]
            self.assertEqual(tuple(both), least_rings(2, size))


class Orbits(unittest.TestCase):
    def test_against_a_search(self):
        for rank, size in SIZES:
            made = orbits(rank, size)
            self.assertIs(type(made), tuple)
            found = {plain_level(rank, (ring,)) for ring in plain_least_rings(rank, size)}
            self.assertEqual(made, tuple(sorted(found, key=lambda rows: row_key(rows[0]))), (rank, size))

    def test_each_ring_is_in_exactly_one_level(self):
        for rank, size in SIZES:
            rows = [row for found in orbits(rank, size) for row in found]
            self.assertEqual(sorted(rows, key=row_key), [(ring,) for ring in least_rings(rank, size)])

    def test_order_and_sizes(self):
        for rank, size in SIZES:
            made = orbits(rank, size)
            self.assertTrue(all(1 <= len(rows) <= 40 for rows in made))
            firsts = [row_key(rows[0]) for rows in made]
            self.assertEqual(firsts, sorted(firsts))
            for rows in made:
                self.assertEqual(list(rows), sorted(rows, key=row_key))

    def test_against_a_search_through_all_rows(self):
        for size in range(1, 6):
            for rows in orbits(2, size):
                self.assertEqual(rows, literal_level(2, rows[0]))
        self.assertEqual(orbits(2, 4), ((("aaaa",),), (("aabb",), ("abaB",)), (("abAB",),)))


class Errors(unittest.TestCase):
    def fails(self, limit, rank, size):
        for function in (least_rings, orbits):
            with self.assertRaises(TooLarge) as caught:
                function(rank, size)
            self.assertEqual(caught.exception.limit, limit)
            self.assertIs(type(caught.exception.limit), int)

    def test_bad_size(self):
        for rank in (2, 3, 4):
            for size in bad_sizes():
                for function in (least_rings, orbits):
                    with self.assertRaises(BadSize) as caught:
                        function(rank, size)
                    self.assertIs(type(caught.exception), BadSize)
                    self.assertRaises(BadSize, function, size=size, rank=rank)

    def test_too_large(self):
        for size in (1, 2, 5, 6, 7, 100, 10 ** 900):
            self.fails(3, 4, size)
        for size in (7, 8, 60, 10 ** 900):
            self.fails(6, 2, size)
        for size in (6, 7, 60, 10 ** 900):
            self.fails(5, 3, size)

    def test_order_of_errors(self):
        for function in (least_rings, orbits):
            for rank in (None, 1, 5, True, "2", [2]):
                self.assertRaises(BadRank, function, rank, None)
                self.assertRaises(BadRank, function, rank, 0)
                self.assertRaises(BadRank, function, rank, 100)
            self.assertRaises(BadSize, function, 4, 0)
            self.assertRaises(BadSize, function, 4, None)


if __name__ == "__main__":
    unittest.main()
