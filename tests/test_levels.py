"""Points 18 and 19: canonical rows, neighbours, levels and closed tuples."""

import unittest

from plain import RANKS, all_moves, all_relabelings, is_minimal_row, plain_row, plain_substitution, row_size
from plain_levels import (
    literal_level, plain_canonical, plain_closed, plain_least_row, plain_level, plain_neighbours, plain_step, row_key,
)
from ringleast.errors import NotMinimal, TooLarge
from ringleast.levels import canonical, is_closed, level, neighbours
from samples import MINIMAL, rows_of_all_kinds, some_row, some_rows, some_way
from wrong import bad_rows, bad_steps, nested_values

# Minimal rows of rank 3 whose levels have 40 rows, and the ones with 42, 56, 60 and 100 rows.
FORTY = [("c", "abbacc", "AA"), ("B", "abc", "bb", "aC")]
LARGE = [("ABBB", "AcBC", "C"), ("AAABc", "abCC"), ("acABBACbbAB",), ("accB", "AB", "b")]


def least_rows(rank, size=10, many=24):
    """Minimal rows of the rank that some rows become."""
    return [plain_least_row(rank, row) for row in some_rows(rank, size, many)]


def short_minimal(rank):
    """Minimal rows of the rank with levels of at most 40 rows."""
    found = [row for row in MINIMAL[rank] + least_rows(rank) if row_size(row) <= 24]
    return [row for row in found if plain_level(rank, row, 40) is not None]


class Canonical(unittest.TestCase):
    def check(self, rank, row):
        made = canonical(rank, row)
        self.assertIs(type(made), tuple)
        step, result = made
        self.assertEqual(result, plain_canonical(rank, row), row)
        self.assertIn(step, all_relabelings(rank))
        self.assertEqual(plain_step(rank, step, row), result)
        return result

    def test_against_all_relabelings(self):
        for rank in RANKS:
            for row in rows_of_all_kinds(rank, 40 if rank < 4 else 12)[::1 if rank < 4 else 3]:
                self.check(rank, row)

    def test_relabeled_rows_have_the_same_canonical_row(self):
        for rank in RANKS:
            for row in rows_of_all_kinds(rank)[::4]:
                result = self.check(rank, row)
                self.assertEqual(canonical(rank, result)[1], result)
                for step in all_relabelings(rank)[::1 if rank < 4 else 29]:
                    self.assertEqual(canonical(rank, plain_step(rank, step, row))[1], result)

    def test_an_earlier_ring_decides_first(self):
        self.assertEqual(canonical(2, ("b", "a"))[1], ("a", "b"))
        self.assertEqual(canonical(2, ("B", "B"))[1], ("a", "a"))
        self.assertEqual(canonical(2, ("B", "b"))[1], ("a", "A"))
        self.assertEqual(canonical(2, ("bb", "aab"))[1], ("aa", "abb"))
        self.assertEqual(canonical(3, ("C", "B", "A"))[1], ("a", "b", "c"))
        self.assertEqual(canonical(4, ("D",))[1], ("a",))
        self.assertEqual(canonical(2, ("AB",))[1], ("ab",))

    def test_rows_of_sixty_letters(self):
        for rank in RANKS:
            self.assertEqual(canonical(rank, ("B" * 60,))[1], ("a" * 60,))
            self.check(rank, some_row(5, rank, 60))
            self.check(rank, some_row(6, rank, 60, 4))


class Neighbours(unittest.TestCase):
    def check(self, rank, row):
        made = neighbours(rank, row)
        self.assertIs(type(made), tuple)
        self.assertEqual(made, plain_neighbours(rank, row), row)
        self.assertEqual(list(made), sorted(set(made), key=row_key))
        self.assertIn(plain_canonical(rank, row), made)

    def test_against_all_moves(self):
        for rank in (2, 3):
            for row in rows_of_all_kinds(rank)[::1 if rank == 2 else 3] + short_minimal(rank)[::2]:
                self.check(rank, row)

    def test_rank_4(self):
        for row in [("a",), ("abcd",), ("aabb", "cd"), ("abABcdCD",), ("ab", "c", "D"), ("aBcc", "d")]:
            self.check(4, row)

    def test_rows_that_are_not_minimal(self):
        self.assertEqual(neighbours(2, ("ab",)), (("ab",),))
        self.assertEqual(neighbours(2, ("aab", "b")), plain_neighbours(2, ("aab", "b")))

    def test_row_order_with_rings_of_different_lengths(self):
        many = [row for row in some_rows(2, 12, 40) if len({tuple(map(len, near)) for near in neighbours(2, row)}) > 1]
        self.assertGreater(len(many), 5)
        for row in many:
            self.check(2, row)


class Level(unittest.TestCase):
    def check(self, rank, row):
        made = level(rank, row)
        self.assertIs(type(made), tuple)
        self.assertEqual(made, plain_level(rank, row), row)
        self.assertEqual(list(made), sorted(set(made), key=row_key))
        self.assertIn(plain_canonical(rank, row), made)
        return made

    def test_against_a_search(self):
        for rank in (2, 3):
            sizes = [len(self.check(rank, row)) for row in short_minimal(rank)]
            self.assertGreater(max(sizes), 3)

    def test_against_a_search_through_all_rows(self):
        for row in short_minimal(2):
            if row_size(row) < 12:
                self.assertEqual(level(2, row), literal_level(2, row), row)
        for row in [("a",), ("aa",), ("abAB",), ("a", "b"), ("aabb",)]:
            self.assertEqual(level(3, row), literal_level(3, row), row)

    def test_each_row_has_the_same_level(self):
        for rank in (2, 3):
            for row in short_minimal(rank)[::2]:
                made = level(rank, row)
                for other in made[:12]:
                    self.assertEqual(level(rank, other), made)
                    step = all_relabelings(rank)[-2]
                    self.assertEqual(level(rank, plain_step(rank, step, other)), made)

    def test_minimal_rows_that_a_route_connects(self):
        for rank in (2, 3):
            for seed, row in enumerate(short_minimal(rank)[::2]):
                other = plain_least_row(rank, some_way(seed, rank, row, 40)[1])
                self.assertEqual(level(rank, other), level(rank, row))

    def test_too_large_3_comes_first(self):
        for row in MINIMAL[4] + [("ab",), ("aab", "b"), ("ab" * 30,), ("a" * 25,), ("a" + "ab" * 12,)]:
            with self.assertRaises(TooLarge) as caught:
                level(4, row)
            self.assertEqual(caught.exception.limit, 3)

    def test_too_large_24_comes_second(self):
        for rank in (2, 3):
            for row in [("a" * 25,), ("a" * 60,), ("a" * 24 + "b",), ("ab" * 13,), ("a" * 20, "ab", "abb")]:
                with self.assertRaises(TooLarge) as caught:
                    level(rank, row)
                self.assertEqual(caught.exception.limit, 24)
            self.assertEqual(level(rank, ("B" * 24,)), (("a" * 24,),))
            self.assertEqual(level(rank, ("abAB" * 6,)), (("abAB" * 6,),))
            self.assertEqual(level(rank, ("a" * 12, "b" * 12)), plain_level(rank, ("a" * 12, "b" * 12)))

    def test_not_minimal_comes_third(self):
        for rank in (2, 3):
            rows = [("ab",), ("aab",), ("ab", "ab"), ("ab" * 12,), ("a" * 23 + "b",)] + some_rows(rank, 20, 60)
            count = 0
            for row in rows:
                if is_minimal_row(rank, row):
                    continue
                count += 1
                with self.assertRaises(NotMinimal) as caught:
                    level(rank, row)
                move = caught.exception.move
                self.assertIn(move, all_moves(rank))
                self.assertLess(row_size(plain_row(plain_substitution(rank, move), row)), row_size(row))
            self.assertGreater(count, 15)

    def test_too_large_40_comes_last(self):
        for row in FORTY:
            self.assertEqual(len(self.check(3, row)), 40)
        self.assertEqual([len(plain_level(3, row)) for row in LARGE], [42, 56, 60, 100])
        for row in LARGE + [row for row in least_rows(3, 18, 40) if plain_level(3, row, 40) is None]:
            self.assertLessEqual(row_size(row), 24)
            with self.assertRaises(TooLarge) as caught:
                level(3, row)
            self.assertEqual(caught.exception.limit, 40)


class IsClosed(unittest.TestCase):
    def levels(self, rank):
        return [level(rank, row) for row in short_minimal(rank)]

    def test_levels(self):
        for rank in (2, 3):
            for rows in self.levels(rank):
                self.assertIs(is_closed(rank, rows), True)
        for row in FORTY:
            self.assertIs(is_closed(3, level(3, row)), True)

    def test_two_levels_together(self):
        for rank in (2, 3):
            count = 0
            found = self.levels(rank)
            for one in found:
                for other in found:
                    if len(one[0]) != len(other[0]) or row_size(one[0]) != row_size(other[0]) or one == other:
                        continue
                    both = tuple(sorted(one + other, key=row_key))
                    self.assertTrue(plain_closed(rank, both))
                    self.assertIs(is_closed(rank, both), len(both) <= 40)
                    self.assertIs(is_closed(rank, one + other), one + other == both)
                    count += 1
            self.assertGreater(count, 3)

    def test_changed_levels(self):
        for rank in (2, 3):
            for rows in self.levels(rank):
                things = [list(rows), rows + rows[-1:], rows[:1] + rows, (rows,), dict.fromkeys(rows), set(rows)]
                things += [rows + ((),), rows + (None,), (list(rows[0]),) + rows[1:], rows[0], ()]
                if len(rows) > 1:
                    things += [rows[:k] + rows[k + 1:] for k in range(min(len(rows), 6))]
                    things += [rows[::-1], rows[1:] + rows[:1], rows[1:2] + rows[:1] + rows[2:]]
                for thing in things:
                    self.assertIs(is_closed(rank, thing), False, thing)

    def test_rows_that_are_not_canonical(self):
        for rank in (2, 3):
            for rows in self.levels(rank):
                for step in all_relabelings(rank)[1::7]:
                    changed = tuple(sorted({plain_step(rank, step, row) for row in rows}, key=row_key))
                    self.assertIs(is_closed(rank, changed), changed == rows)
        self.assertIs(is_closed(2, (("a",),)), True)
        for row in [("A",), ("b",), ("B",)]:
            self.assertIs(is_closed(2, (row,)), False)
            self.assertIs(is_closed(2, (("a",), row)), False)

    def test_rows_that_are_not_minimal(self):
        for rank in (2, 3):
            for row in some_rows(rank, 9, 40):
                rows = plain_level(rank, row)
                expected = len(rows) <= 40 and all(is_minimal_row(rank, each) for each in rows)
                self.assertIs(is_closed(rank, rows), expected, row)
        # All neighbours of these rows are there, so only the moves that decrease the length tell.
        for row in [("ab",), ("ab", "ab"), ("ab", "AB"), ("abab",)]:
            self.assertEqual(plain_neighbours(2, row), (row,))
            self.assertIs(is_closed(2, (row,)), False)

    def test_24_and_25_letters(self):
        for rank in (2, 3):
            for row in [("a",), ("aa", "b"), ("a", "A"), ("a", "bb")]:
                for count in (22, 23, 24, 25, 26):
                    longer = ("a" * (count - row_size(row[1:])),) + row[1:]
                    rows = plain_level(rank, longer)
                    self.assertTrue(plain_closed(rank, rows))
                    self.assertIs(is_closed(rank, rows), count <= 24 and len(rows) <= 40, longer)
            self.assertIs(is_closed(rank, (("a" * 60,),)), False)

    def test_40_and_41_rows(self):
        forty = level(3, FORTY[0])
        for row in [("aaa", "aaa", "aaa"), ("aaa", "bbb", "ccc"), ("a", "bbbb", "cccc")]:
            rows = level(3, plain_canonical(3, row))
            self.assertIs(is_closed(3, rows), True)
            both = tuple(sorted(forty + rows, key=row_key))
            self.assertTrue(plain_closed(3, both))
            self.assertIs(is_closed(3, both), False)
        self.assertEqual(level(3, ("aaa", "aaa", "aaa")), (("aaa", "aaa", "aaa"),))
        for row in LARGE:
            rows = plain_level(3, row)
            self.assertTrue(plain_closed(3, rows))
            self.assertIs(is_closed(3, rows), False)

    def test_different_numbers_of_rings_and_lengths(self):
        for rank in (2, 3):
            for rows in [
                (("a",), ("a", "a")), (("aa",), ("a", "a")), (("a",), ("aa",)), (("a", "a"), ("a", "a", "a")),
                (("a", "aa"), ("a", "b")), (("aaaa",), ("abAB",), ("aabb", "b")),
            ]:
                self.assertIs(is_closed(rank, rows), False, rows)
                self.assertIs(is_closed(rank, rows[::-1]), False, rows)

    def test_rank_4(self):
        for row in MINIMAL[2] + MINIMAL[4]:
            self.assertIs(is_closed(4, (plain_canonical(4, row),)), False)
        for rank in (2, 3):
            for rows in self.levels(rank):
                self.assertIs(is_closed(4, rows), False)

    def test_the_rank_matters(self):
        rows = level(3, ("a", "b", "c"))
        self.assertIs(is_closed(3, rows), True)
        self.assertIs(is_closed(2, rows), False)

    def test_values_of_other_kinds(self):
        for rank in (2, 3, 4):
            values = nested_values() + bad_steps(rank)[::5] + bad_rows(rank)[::3]
            values = [value for value in values if value != (("a",),)]
            for thing in values + [(row,) for row in bad_rows(rank)] + [[("a",)], (["a"],), ("a",), "a", {("a",): 1}]:
                self.assertIs(is_closed(rank, thing), False, repr(thing)[:60])
            for row in bad_rows(rank)[::7]:
                self.assertIs(is_closed(rank, (("a",), row)), False)
                self.assertIs(is_closed(rank, (row, ("a",))), False)
            self.assertIs(is_closed(rank, (("a",),) * 10000), False)


if __name__ == "__main__":
    unittest.main()
