"""Points 16 and 17: least cuts, paths, and certificates."""

import unittest

from plain import (
    BASE, RANKS, all_moves, end_of_path, is_minimal_row, plain_cut, plain_degree, plain_edges, plain_least_cut,
    plain_row, plain_sides, plain_substitution, row_size,
)
from reference import OPPOSITE, SETS
from ringleast.errors import NotMinimal
from ringleast.flows import certificate, check_certificate, least_cut, paths
from samples import MINIMAL, minimal_rows, rows_of_all_kinds
from wrong import nested_values


class LeastCut(unittest.TestCase):
    def test_against_all_letter_sets(self):
        for rank in RANKS:
            for row in rows_of_all_kinds(rank):
                for letter in SETS[rank]:
                    size, side = least_cut(rank, row, letter)
                    self.assertEqual(size, plain_least_cut(rank, row, letter), (row, letter))
                    self.assertIn(side, plain_sides(rank, letter))
                    self.assertEqual(plain_cut(row, side), size)
                    self.assertIs(type(size), int)

    def test_kinds(self):
        for rank in RANKS:
            made = least_cut(rank, ("abAB",), "a")
            self.assertIs(type(made), tuple)
            self.assertEqual(len(made), 2)
            self.assertEqual(made[0], 2)

    def test_missing_letters(self):
        for letter in "bBcCdD":
            size, side = least_cut(4, ("a", "aa"), letter)
            self.assertEqual(size, 0)
            self.assertIn(side, plain_sides(4, letter))

    def test_a_letter_and_its_inverse_have_the_same_size(self):
        for rank in RANKS:
            for row in rows_of_all_kinds(rank):
                for letter in BASE[rank]:
                    self.assertEqual(least_cut(rank, row, letter)[0], least_cut(rank, row, OPPOSITE[letter])[0])


class Paths(unittest.TestCase):
    def check(self, rank, row, letter):
        found = paths(rank, row, letter)
        self.assertIs(type(found), tuple)
        self.assertEqual(len(found), plain_least_cut(rank, row, letter))
        self.assertEqual(len(found), least_cut(rank, row, letter)[0])
        used = [edge for path in found for edge in path]
        self.assertEqual(len(used), len(set(used)))
        for path in found:
            self.assertIs(type(path), tuple)
            self.assertGreater(len(path), 0)
            self.assertEqual(end_of_path(row, letter, path), OPPOSITE[letter])
        for edge in used:
            self.assertEqual([type(edge)] + [type(index) for index in edge], [tuple, int, int])

    def test_all_rows(self):
        for rank in RANKS:
            for row in rows_of_all_kinds(rank, 120):
                for letter in SETS[rank]:
                    self.check(rank, row, letter)

    def test_one_letter(self):
        self.assertEqual(paths(2, ("a",), "a"), (((0, 0),),))
        self.assertEqual(paths(2, ("a",), "A"), (((0, 0),),))
        self.assertEqual(paths(2, ("a",), "b"), ())
        self.assertEqual(paths(2, ("a",), "B"), ())
        self.assertEqual(paths(4, ("b", "a", "D"), "d"), (((2, 0),),))

    def test_the_same_result_each_time(self):
        for rank in RANKS:
            for row in rows_of_all_kinds(rank)[::4]:
                self.assertEqual(paths(rank, row, "b"), paths(rank, row, "b"))


class Certificate(unittest.TestCase):
    def test_minimal_rows(self):
        for rank in RANKS:
            for row in minimal_rows(rank):
                self.assertTrue(is_minimal_row(rank, row), row)
                made = certificate(rank, row)
                self.assertIs(type(made), tuple)
                self.assertEqual(len(made), rank)
                for letter, flow in zip(BASE[rank], made):
                    self.assertIs(type(flow), tuple)
                    self.assertEqual(len(flow), plain_degree(row, letter))
                    used = [edge for path in flow for edge in path]
                    self.assertEqual(len(used), len(set(used)))
                    for path in flow:
                        self.assertIs(type(path), tuple)
                        self.assertNotEqual(path, ())
                        self.assertEqual(end_of_path(row, letter, path), OPPOSITE[letter])
                self.assertIs(check_certificate(rank, row, made), True)

    def test_other_rows(self):
        for rank in RANKS:
            count = 0
            for row in rows_of_all_kinds(rank, 80):
                if is_minimal_row(rank, row):
                    self.assertIs(check_certificate(rank, row, certificate(rank, row)), True)
                    continue
                count += 1
                with self.assertRaises(NotMinimal) as caught:
                    certificate(rank, row)
                move = caught.exception.move
                self.assertIn(move, all_moves(rank))
                self.assertIs(type(move), tuple)
                self.assertLess(row_size(plain_row(plain_substitution(rank, move), row)), row_size(row))
            self.assertGreater(count, 30)

    def test_the_last_base_letter_decides(self):
        for rank, row in [(2, ("ab", "b")), (3, ("Acc",)), (3, ("c", "Bc")), (4, ("Bdd",)), (4, ("d", "CD"))]:
            self.assertFalse(is_minimal_row(rank, row))
            with self.assertRaises(NotMinimal):
                certificate(rank, row)


class CheckCertificate(unittest.TestCase):
    def test_paths_in_another_order(self):
        for rank in RANKS:
            for row in minimal_rows(rank):
                made = certificate(rank, row)
                self.assertIs(check_certificate(rank, row, tuple(flow[::-1] for flow in made)), True)
                self.assertIs(check_certificate(rank, row, tuple(flow[1:] + flow[:1] for flow in made)), True)

    def test_other_paths(self):
        self.assertIs(check_certificate(2, ("abAB",), (
            (((0, 0), (0, 3)), ((0, 1), (0, 2))), (((0, 1), (0, 0)), ((0, 2), (0, 3))),
        )), True)
        # A path may visit a node twice, and a path may use edges of another ring.
        self.assertIs(check_certificate(2, ("aa", "abAB"), (
            (((0, 0),), ((0, 1),), ((1, 0), (1, 3)), ((1, 1), (1, 2))),
            (((1, 1), (0, 0), (1, 3)), ((1, 2), (0, 1), (1, 0))),
        )), True)
        self.assertIs(check_certificate(2, ("aaa", "abAB"), (
            (((0, 0), (0, 1), (0, 2)), ((1, 0), (1, 3)), ((1, 1), (1, 2))),
            (((1, 1), (1, 0)), ((1, 2), (1, 3))),
        )), False)
        self.assertIs(check_certificate(2, ("aaa", "bb"), (
            (((0, 2),), ((0, 0),), ((0, 1),)), (((1, 1),), ((1, 0),)),
        )), True)
        self.assertIs(check_certificate(2, ("abAB", "aaa"), (
            (((0, 0), (0, 3)), ((0, 1), (0, 2)), ((1, 0),), ((1, 1),), ((1, 2),)),
            (((0, 1), (1, 2), (1, 0), (0, 0)), ((0, 2), (1, 1), (0, 1))),
        )), False)
        self.assertIs(check_certificate(2, ("abAB", "aaa"), (
            (((0, 0), (0, 3)), ((0, 1), (0, 2)), ((1, 0),), ((1, 1),), ((1, 2),)),
            (((0, 1), (1, 2), (1, 0), (0, 0)), ((0, 2), (0, 3))),
        )), True)

    def spoilt(self, rank, row, made):
        """Values that are close to a certificate, but none."""
        yield made[:-1]
        yield made[1:]
        yield made + ((),)
        yield list(made)
        yield (made,)
        yield dict(enumerate(made))
        ends = plain_edges(row)
        for at, flow in enumerate(made):
            for other in self.spoilt_flows(row, BASE[rank][at], flow, ends):
                yield made[:at] + (other,) + made[at + 1:]

    def spoilt_flows(self, row, letter, flow, ends):
        yield from (list(flow), flow + ((),), flow + (((0, 0),),), None, "".join(row), 0, set(flow), frozenset(flow))
        if not flow:
            return
        yield from (flow[1:], flow[:-1], (), flow + flow[:1], flow[:1] * len(flow) + flow[:1], dict.fromkeys(flow))
        if len(flow) > 1:
            yield from (flow[:1] * len(flow), flow[:-1] + flow[:1], (flow[0] + flow[1],) + flow[1:])
        for at, path in enumerate(flow):
            others = [(), path[1:], path[:-1], list(path), path + path, path + path[:1], path[:1] + path, None, 7, "ab"]
            for k, edge in enumerate(path):
                for item in self.spoilt_edges(edge, ends):
                    others.append(path[:k] + (item,) + path[k + 1:])
            for other in others:
                yield flow[:at] + (other,) + flow[at + 1:]

    def spoilt_edges(self, edge, ends):
        k, i = edge
        yield from (list(edge), (k,), (k, i, 0), (k, i + 100), (k + 4, i), (k, -1), (-1, i), (k, None), (None, i))
        yield from ((k, float(i)), (float(k), i), (str(k), str(i)), (k, [i]), ([k], i), (10 ** 40, i))
        yield from (k, None, "00", "", {k: i}, {k, i}, ((k, i),))
        if i < 2:
            yield (k, bool(i))
        if k < 2:
            yield (bool(k), i)

    def test_spoilt_certificates(self):
        for rank in RANKS:
            for row in minimal_rows(rank):
                made = certificate(rank, row)
                if row_size(row) > 12:
                    continue
                count = 0
                for thing in self.spoilt(rank, row, made):
                    self.assertIs(check_certificate(rank, row, thing), False, (row, thing))
                    count += 1
                self.assertGreater(count, 20)

    def test_an_edge_twice_in_a_flow(self):
        self.assertIs(check_certificate(2, ("aa",), ((((0, 0),), ((0, 0),)), ())), False)
        self.assertIs(check_certificate(2, ("aa",), ((((0, 0), (0, 0), (0, 0)), ((0, 1),)), ())), False)
        self.assertIs(check_certificate(2, ("aaaa",), ((((0, 0), (0, 1), (0, 2)), ((0, 3),)) * 2, ())), False)
        # The same edge may occur in flows of different letters.
        made = certificate(2, ("abAB",))
        self.assertTrue({edge for path in made[0] for edge in path} & {edge for path in made[1] for edge in path})

    def test_an_edge_of_another_place(self):
        self.assertIs(check_certificate(2, ("a", "b"), ((((0, 0),),), (((1, 0),),))), True)
        self.assertIs(check_certificate(2, ("a", "b"), ((((1, 0),),), (((0, 0),),))), False)
        self.assertIs(check_certificate(2, ("b", "a"), ((((0, 0),),), (((1, 0),),))), False)
        self.assertIs(check_certificate(2, ("a",), ((((False, 0),),), ())), False)
        self.assertIs(check_certificate(2, ("a",), ((((0, False),),), ())), False)
        self.assertIs(check_certificate(2, ("a", "a"), ((((0, 0),), ((1, 0),)), ())), True)
        self.assertIs(check_certificate(2, ("a", "a"), ((((0, 0),), ((True, 0),)), ())), False)
        self.assertIs(check_certificate(2, ("aa",), ((((0, 0),), ((0, True),)), ())), False)
        self.assertIs(check_certificate(2, ("aa",), ((((0, 0),), ((0, 1.0),)), ())), False)

    def test_certificates_of_other_rows_and_ranks(self):
        for row in MINIMAL[2]:
            made = certificate(2, row)
            self.assertIs(check_certificate(3, row, made), False)
            self.assertIs(check_certificate(4, row, made), False)
            self.assertIs(check_certificate(3, row, made + ((),)), True)
            self.assertIs(check_certificate(4, row, made + ((), ())), True)
            self.assertIs(check_certificate(2, row, made + ((),)), False)
        self.assertIs(check_certificate(2, ("aabb",), certificate(2, ("abAB",))), False)
        self.assertIs(check_certificate(2, ("bb",), certificate(2, ("aa",))), False)

    def test_rows_that_are_not_minimal_have_none(self):
        made = certificate(2, ("abAB",))
        for thing in (made, ((), ()), ((((0, 0),),), (((0, 1),),)), ((((0, 0), (0, 1)),), (((0, 1), (0, 0)),))):
            self.assertIs(check_certificate(2, ("ab",), thing), False)
            self.assertIs(check_certificate(2, ("aab",), thing), False)

    def test_values_of_other_kinds(self):
        deep = (0, 0)
        for _ in range(38):
            deep = (deep,)
        for rank in RANKS:
            for row in [("a",), ("abAB",), ("a" * 60,)]:
                values = nested_values() + [deep, [deep], ((),) * rank, ([],) * rank, (None,) * rank, ("",) * rank]
                values += [deep] * rank
                for value in nested_values():
                    values += [(value,) * rank, ((value,),) * rank, (((value,),),) * rank]
                # (0, 0) is an edge, so 0 is left out.
                others = [value for value in nested_values() if type(value) is not int]
                values += [((((value, value),),),) + ((),) * (rank - 1) for value in others]
                for thing in values:
                    self.assertIs(check_certificate(rank, row, thing), False, repr(thing)[:60])

    def test_things_are_not_changed(self):
        thing = [[[[0, 0]]], []]
        self.assertIs(check_certificate(2, ("a",), thing), False)
        self.assertEqual(thing, [[[[0, 0]]], []])


if __name__ == "__main__":
    unittest.main()
