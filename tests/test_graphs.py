"""Points 14 and 15: edges, degrees, cuts, the rule of change, and components."""

import unittest

from plain import (
    RANKS, all_letter_sets, all_moves, all_relabelings, all_steps, plain_components, plain_cut, plain_degree,
    plain_edges, plain_row, plain_substitution, row_size,
)
from reference import SETS
from ringleast.graphs import change, components, cut, degree, edges
from samples import some_row, some_rows

ROWS = [
    ("a",), ("A",), ("b",), ("B",), ("aa",), ("ab",), ("aB",), ("abAB",), ("aab", "b"), ("a", "a", "a", "a"),
    ("a", "A"), ("a", "b", "B", "ab"), ("a" * 60,), ("ab" * 30,), ("abAB" * 15,), ("aabb", "abAB", "Ab", "b" * 9),
]


def rows_of(rank):
    return ROWS + some_rows(rank, 12, 24) + some_rows(rank, 60, 8)


class Edges(unittest.TestCase):
    def test_against_plain_edges(self):
        for rank in RANKS:
            for row in rows_of(rank):
                ends = plain_edges(row)
                self.assertEqual(edges(rank, row), tuple((edge,) + ends[edge] for edge in sorted(ends)))

    def test_a_ring_of_one_letter(self):
        for rank in RANKS:
            self.assertEqual(edges(rank, ("a",)), (((0, 0), "a", "A"),))
            self.assertEqual(edges(rank, ("B",)), (((0, 0), "B", "b"),))
            self.assertEqual(edges(rank, ("a", "B")), (((0, 0), "a", "A"), ((1, 0), "B", "b")))

    def test_kinds(self):
        for rank in RANKS:
            for row in rows_of(rank):
                made = edges(rank, row)
                self.assertIs(type(made), tuple)
                self.assertEqual(len(made), row_size(row))
                for edge, x, z in made:
                    self.assertEqual([type(index) for index in edge], [int, int])
                    self.assertIn(x, SETS[rank])
                    self.assertIn(z, SETS[rank])
                    self.assertNotEqual(x, z)

    def test_letters_of_a_row(self):
        for edge, x, _ in edges(2, ("aab", "abAB")):
            self.assertEqual(("aab", "abAB")[edge[0]][edge[1]], x)
        self.assertEqual(edges(2, ("abAB",)), (
            ((0, 0), "a", "B"), ((0, 1), "b", "a"), ((0, 2), "A", "b"), ((0, 3), "B", "A"),
        ))


class Degree(unittest.TestCase):
    def test_against_plain_edges(self):
        for rank in RANKS:
            for row in rows_of(rank):
                for letter in SETS[rank]:
                    made = degree(rank, row, letter)
                    self.assertEqual(made, plain_degree(row, letter))
                    self.assertEqual(made, "".join(row).lower().count(letter.lower()))
                    self.assertIs(type(made), int)

    def test_missing_letters(self):
        for letter in "bBcCdD":
            self.assertEqual(degree(4, ("a", "A", "aa"), letter), 0)
        self.assertEqual(degree(4, ("a", "A", "aa"), "A"), 4)


class Cut(unittest.TestCase):
    def test_against_plain_edges(self):
        for rank in RANKS:
            for row in rows_of(rank)[::1 if rank < 4 else 4]:
                for side in all_letter_sets(rank):
                    made = cut(rank, row, side)
                    self.assertEqual(made, plain_cut(row, side), (row, side))
                    self.assertIs(type(made), int)

    def test_no_letter_all_letters_and_one_letter(self):
        for rank in RANKS:
            for row in rows_of(rank):
                self.assertEqual(cut(rank, row, ""), 0)
                self.assertEqual(cut(rank, row, SETS[rank]), 0)
                for letter in SETS[rank]:
                    self.assertEqual(cut(rank, row, letter), degree(rank, row, letter))

    def test_sides_with_a_letter_and_its_inverse(self):
        self.assertEqual(cut(2, ("ab",), "aA"), 2)
        self.assertEqual(cut(2, ("a",), "aA"), 0)
        self.assertEqual(cut(3, ("abc", "b"), "aAbB"), 2)


class Change(unittest.TestCase):
    def test_against_plain_rows(self):
        for rank in RANKS:
            for row in rows_of(rank)[::1 if rank < 4 else 5]:
                for step in all_steps(rank)[::1 if rank < 4 else 3]:
                    result = plain_row(plain_substitution(rank, step), row)
                    self.assertEqual(change(rank, row, step), row_size(result) - row_size(row), (row, step))

    def test_results_above_60(self):
        for step, result in [(("move", "A", "AB"), 60), (("move", "A", "AbB"), 0), (("move", "a", "aB"), 60)]:
            self.assertEqual(change(2, ("b" * 60,), step), result)
        self.assertEqual(change(2, ("b" * 15,) * 4, ("move", "a", "ab")), 60)
        self.assertEqual(change(2, ("ab" * 30,), ("move", "a", "ab")), 30)
        self.assertEqual(change(4, ("bcBC" * 15,), ("move", "a", "abB")), 60)
        above = [
            (row, move) for row in [some_row(seed, 3, 60) for seed in range(8)] for move in all_moves(3)
            if change(3, row, move) + row_size(row) > 60
        ]
        self.assertGreater(len(above), 50)
        for row, move in above:
            result = plain_row(plain_substitution(3, move), row)
            self.assertEqual(change(3, row, move), row_size(result) - row_size(row))

    def test_relabelings(self):
        for rank in RANKS:
            for row in rows_of(rank)[::3]:
                for step in all_relabelings(rank)[::7]:
                    made = change(rank, row, step)
                    self.assertEqual(made, 0)
                    self.assertIs(type(made), int)

    def test_moves_of_one_letter_change_nothing(self):
        for rank in RANKS:
            for row in rows_of(rank):
                for s in SETS[rank]:
                    self.assertEqual(change(rank, row, ("move", s, s)), 0)


class Components(unittest.TestCase):
    def test_against_plain_edges(self):
        for rank in RANKS:
            for row in rows_of(rank):
                self.assertEqual(components(rank, row), plain_components(rank, row), row)

    def test_all_pairs_of_short_rings(self):
        rings = ["a", "B", "aa", "ab", "aB", "Ab", "abAB", "aab", "C", "ac", "bC", "abc", "cc", "acAC", "bcBC"]
        for one in rings:
            for other in rings:
                self.assertEqual(components(3, (one, other)), plain_components(3, (one, other)))

    def test_missing_letters_are_components(self):
        self.assertEqual(components(2, ("a",)), ("aA", "b", "B"))
        self.assertEqual(components(2, ("B",)), ("a", "A", "bB"))
        self.assertEqual(components(3, ("abAB",)), ("aAbB", "c", "C"))
        self.assertEqual(components(4, ("d",)), ("a", "A", "b", "B", "c", "C", "dD"))
        self.assertEqual(components(4, ("abAB", "cdCD")), ("aAbB", "cCdD"))
        self.assertEqual(components(4, ("ad", "bc")), ("aD", "Ad", "bC", "Bc"))

    def test_connected_rows(self):
        for rank, row in [(2, ("abAB",)), (3, ("aabbcc",)), (4, ("abABcdCD",))]:
            self.assertEqual(components(rank, row), (SETS[rank],))


if __name__ == "__main__":
    unittest.main()
