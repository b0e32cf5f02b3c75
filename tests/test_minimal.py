"""Point 17: minimal rows, and moves that decrease the length."""

import unittest

from plain import RANKS, all_moves, is_minimal_row, plain_row, plain_substitution, row_size
from plain_levels import plain_least_row, plain_way
from reference import plain_ring, some_word
from ringleast.minimal import is_minimal, least_length, reduce_row, shorten
from ringleast.rings import is_row
from samples import MINIMAL, conjugation, minimal_rows, rows_of_all_kinds, some_rows, some_way


class IsMinimal(unittest.TestCase):
    def test_against_all_moves(self):
        for rank in RANKS:
            made = []
            for row in rows_of_all_kinds(rank, 80) + minimal_rows(rank):
                made.append(is_minimal(rank, row))
                self.assertIs(made[-1], is_minimal_row(rank, row), row)
            self.assertGreater(made.count(True), 15)
            self.assertGreater(made.count(False), 30)

    def test_against_the_lengths_of_all_results(self):
        for rank in (2, 3):
            for row in some_rows(rank, 9, 40):
                lengths = [row_size(plain_row(plain_substitution(rank, move), row)) for move in all_moves(rank)]
                self.assertIs(is_minimal(rank, row), min(lengths) >= row_size(row), row)

    def test_short_rows(self):
        for row in [("a",), ("a", "a"), ("a", "A"), ("aa",), ("abAB",), ("aabb",), ("aabAb",), ("aaa", "b")]:
            self.assertIs(is_minimal(2, row), True, row)
        for row in [("ab",), ("aab",), ("ab", "a"), ("ab", "ab"), ("aabb", "ab"), ("aabab",)]:
            self.assertIs(is_minimal(2, row), False, row)

    def test_the_rank_matters_for_no_row(self):
        for row in rows_of_all_kinds(2):
            self.assertIs(is_minimal(3, row), is_minimal(2, row))
            self.assertIs(is_minimal(4, row), is_minimal(2, row))


class Shorten(unittest.TestCase):
    def test_against_all_moves(self):
        for rank in RANKS:
            for row in rows_of_all_kinds(rank, 80) + minimal_rows(rank):
                move = shorten(rank, row)
                if is_minimal_row(rank, row):
                    self.assertIsNone(move)
                    continue
                self.assertIs(type(move), tuple)
                self.assertIn(move, all_moves(rank))
                self.assertLess(row_size(plain_row(plain_substitution(rank, move), row)), row_size(row))

    def test_only_one_letter_decreases_the_length(self):
        for rank, row in [(2, ("ab", "b")), (2, ("ab", "a")), (3, ("Acc",)), (3, ("c", "Bc")), (4, ("d", "CD"))]:
            move = shorten(rank, row)
            self.assertLess(row_size(plain_row(plain_substitution(rank, move), row)), row_size(row))


class ReduceRow(unittest.TestCase):
    def check(self, rank, row):
        made = reduce_row(rank, row)
        self.assertIs(type(made), tuple)
        route, result = made
        self.assertIs(type(route), tuple)
        self.assertIs(is_row(rank, result), True)
        self.assertTrue(all(step in all_moves(rank) for step in route))
        way = plain_way(rank, row, route)
        self.assertEqual(way[-1], result)
        sizes = [row_size(each) for each in way]
        self.assertEqual(sizes, sorted(set(sizes), reverse=True))
        self.assertTrue(is_minimal_row(rank, result), result)
        self.assertEqual(least_length(rank, row), sizes[-1])
        return made

    def test_rows_of_all_kinds(self):
        for rank in RANKS:
            for row in rows_of_all_kinds(rank, 60):
                self.check(rank, row)

    def test_minimal_rows_come_back(self):
        for rank in RANKS:
            for row in minimal_rows(rank):
                self.assertEqual(self.check(rank, row), ((), row))

    def test_long_images_of_short_rows(self):
        for rank in RANKS:
            for seed in range(20):
                for row in [("a",), ("aa", "b"), ("abAB",)]:
                    longer = some_way(seed, rank, row, 60, 40)[1]
                    self.assertEqual(row_size(self.check(rank, longer)[1]), row_size(row))

    def test_rows_of_sixty_letters(self):
        rings = ["a" * 59 + "b", "a" * 30 + "b" * 30, "ab" * 30, "a" * 57 + "bab"]
        for row in [(ring,) for ring in rings] + [("a" * 58 + "b", "a")]:
            self.check(2, row)
        self.assertEqual(least_length(2, ("a" * 59 + "b",)), 1)
        self.assertEqual(least_length(2, ("ab" * 30,)), 30)


class LeastLength(unittest.TestCase):
    def test_the_same_for_rows_that_a_route_connects(self):
        for rank in RANKS:
            for seed, row in enumerate(rows_of_all_kinds(rank, 20)[::2]):
                least = least_length(rank, row)
                self.assertIs(type(least), int)
                for k in range(3):
                    self.assertEqual(least_length(rank, some_way(seed + 100 * k, rank, row, 60)[1]), least, row)

    def test_against_another_search(self):
        for rank in RANKS:
            for row in rows_of_all_kinds(rank, 20):
                self.assertEqual(least_length(rank, row), row_size(plain_least_row(rank, row)))

    def test_images_of_minimal_rows(self):
        for rank in RANKS:
            for row in MINIMAL[rank]:
                self.assertEqual(least_length(rank, row), row_size(row))
                for seed in range(4):
                    self.assertEqual(least_length(rank, some_way(seed, rank, row, 60)[1]), row_size(row))

    def test_inner_automorphisms_keep_the_row(self):
        for rank in RANKS:
            for size in (1, 3, 9):
                images = conjugation(rank, some_word(size, rank, size))
                row = (plain_ring(some_word(size, rank, 12)),)
                self.assertEqual(plain_row(images, row), row)
                self.assertEqual(least_length(rank, plain_row(images, row)), least_length(rank, row))


if __name__ == "__main__":
    unittest.main()
