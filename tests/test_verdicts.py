"""Points 20 and 21: verdicts on two rows, and what is none."""

import unittest

from plain import RANKS, all_moves, is_minimal_row, plain_row, plain_substitution, row_size, undone_route
from plain_levels import (
    plain_canonical, plain_closed, plain_is_verdict, plain_least_row, plain_level, plain_step, plain_way, row_key,
)
from ringleast.errors import BadRank, BadRow, TooLarge
from ringleast.flows import certificate, check_certificate
from ringleast.levels import level
from ringleast.verdicts import check_verdict, equivalent
from samples import MINIMAL, rows_of_all_kinds, some_row, some_rows, some_way
from wrong import bad_rows, bad_steps, nested_values

# Minimal rows with equally many rings and one length, each in a level of its own.
LEVELS = {
    2: [
        [("aaaa",), ("aabb",), ("abAB",)], [("a", "a"), ("a", "A"), ("a", "b")],
        [("aaa", "b"), ("AAb", "b"), ("aa", "bb")], [("AAB", "aB"), ("B", "AbAB"), ("bb", "AAb"), ("aab", "BB")],
        [("a", "a", "a"), ("a", "A", "a"), ("a", "a", "A")],
        [("Ab", "aabAbb"), ("ABBB", "Abbb"), ("aBAb", "AAbb")], [("aabbabAAB",), ("abABAbaBB",), ("a" * 9,)],
    ],
    3: [
        [("aaaa",), ("aabb",), ("abAB",)], [("a", "b", "c"), ("a", "a", "b"), ("a", "b", "a"), ("a", "A", "b")],
        [("abAB", "c"), ("abAB", "a"), ("aabb", "c"), ("aac", "Ac")], [("aCbABCB",), ("accBAbb",), ("a" * 7,)],
        [("AC", "A", "aC"), ("aBB", "A", "c"), ("b", "Ac", "ac")],
    ],
}
# Minimal rows of different lengths, with equally many rings.
LENGTHS = {
    1: [("a",), ("aa",), ("abAB",), ("aaabb",), ("abABabAB",), ("a" * 25,)],
    2: [("a", "a"), ("aa", "b"), ("abAB", "b"), ("abAB", "abAB"), ("a" * 20, "b" * 9)],
    3: [("a", "A", "b"), ("a", "bb", "a"), ("abAB", "aabb", "a")],
}


def longer(row, other):
    return max(row_size(row), row_size(other))


class Sound(unittest.TestCase):
    """A verdict is checked by plain computations, and by `check_verdict`."""

    def check_route(self, rank, row, route, limit):
        self.assertIs(type(route), tuple)
        way = plain_way(rank, row, route)
        self.assertLessEqual(max(row_size(each) for each in way), limit)
        return way[-1]

    def check(self, rank, one, other):
        made = equivalent(rank, one, other)
        self.assertIs(type(made), tuple)
        self.assertIs(check_verdict(rank, one, other, made), True)
        if made[0] == "equivalent":
            self.assertEqual(len(made), 2)
            self.assertEqual(self.check_route(rank, one, made[1], longer(one, other)), other)
        elif made[1] == "count":
            self.assertEqual(made, ("different", "count"))
            self.assertNotEqual(len(one), len(other))
        elif made[1] == "length":
            self.check_lengths(rank, one, other, made)
        else:
            self.check_levels(rank, one, other, made)
        return made

    def check_lengths(self, rank, one, other, made):
        self.assertEqual((len(made), made[0], len(one)), (6, "different", len(other)))
        ends = [self.check_route(rank, one, made[2], 60), self.check_route(rank, other, made[4], 60)]
        self.assertNotEqual(row_size(ends[0]), row_size(ends[1]))
        for end, flows in zip(ends, (made[3], made[5])):
            self.assertTrue(is_minimal_row(rank, end))
            self.assertIs(check_certificate(rank, end, flows), True)

    def check_levels(self, rank, one, other, made):
        self.assertEqual((len(made), made[:2], len(one)), (5, ("different", "level"), len(other)))
        rows = made[4]
        self.assertIs(type(rows), tuple)
        self.assertTrue(plain_closed(rank, rows))
        self.assertLessEqual(len(rows), 40)
        first = self.check_route(rank, one, made[2], 60)
        second = self.check_route(rank, other, made[3], 60)
        self.assertIn(plain_canonical(rank, first), rows)
        self.assertNotIn(plain_canonical(rank, second), rows)
        self.assertEqual(row_size(second), row_size(rows[0]))
        self.assertLessEqual(row_size(second), 24)


class Equivalent(Sound):
    def test_rows_that_a_route_connects(self):
        for rank in (2, 3):
            rows = [row for row in rows_of_all_kinds(rank, 16) if row_size(plain_least_row(rank, row)) <= 16]
            count = 0
            for seed, row in enumerate(rows):
                if plain_level(rank, plain_least_row(rank, row), 40) is None:
                    continue
                for longest in (24, 60):
                    other = some_way(seed, rank, row, max(longest, row_size(row)))[1]
                    made = self.check(rank, row, other)
                    self.assertEqual(made[0], "equivalent")
                    self.assertEqual(self.check(rank, other, row)[0], "equivalent")
                    count += row != other
            self.assertGreater(count, 30)

    def test_a_row_and_itself(self):
        for rank in (2, 3):
            for row in MINIMAL[rank]:
                if row_size(row) <= 24:
                    self.assertEqual(self.check(rank, row, row)[0], "equivalent")
        self.assertEqual(self.check(2, ("a" * 59 + "b",), ("a" * 59 + "b",))[0], "equivalent")

    def test_all_minimal_rows_of_a_level(self):
        for rank, row in [(2, ("aabb",)), (2, ("aaaaab", "Ab")), (3, ("aabb", "a")), (3, ("bc", "abac"))]:
            rows = plain_level(rank, plain_least_row(rank, row))
            self.assertGreater(len(rows), 1)
            for one in rows[::9] + rows[-1:]:
                for other in rows[1::8]:
                    self.assertEqual(self.check(rank, one, other)[0], "equivalent")

    def test_short_rings(self):
        self.assertEqual(equivalent(2, ("a",), ("a",))[0], "equivalent")
        self.assertEqual(self.check(2, ("a",), ("B",))[0], "equivalent")
        self.assertEqual(self.check(2, ("ab",), ("b",))[0], "equivalent")
        self.assertEqual(self.check(2, ("abAB",), ("aBAb",))[0], "equivalent")
        self.assertEqual(self.check(2, ("a", "b"), ("b", "a"))[0], "equivalent")
        self.assertEqual(self.check(2, ("a", "b"), ("a", "ab"))[0], "equivalent")

    def test_no_letter_of_the_words_matters_for_rank_3(self):
        self.assertEqual(self.check(3, ("abAB",), ("bcBC",))[0], "equivalent")
        self.assertEqual(self.check(3, ("a", "bc"), ("c", "b"))[0], "equivalent")


class Different(Sound):
    def test_count(self):
        for rank in RANKS:
            rows = [("a",), ("a", "b"), ("a", "b", "ab"), ("a", "a", "a", "a"), ("ab" * 30,), ("a" * 30, "b" * 30)]
            for one in rows:
                for other in rows:
                    if len(one) != len(other):
                        self.assertEqual(self.check(rank, one, other), ("different", "count"))

    def test_length(self):
        for rank in RANKS:
            for rows in LENGTHS.values():
                for k, one in enumerate(rows):
                    for m, other in enumerate(rows):
                        if k == m:
                            continue
                        first = some_way(k, rank, one, 60)[1]
                        second = some_way(m + 10, rank, other, 60)[1]
                        for pair in [(one, other), (first, second)]:
                            self.assertEqual(self.check(rank, *pair)[:2], ("different", "length"))

    def test_length_for_all_rows(self):
        for rank in RANKS:
            rows = some_rows(rank, 30, 24)
            for one, other in zip(rows, rows[4:]):
                sizes = [row_size(plain_least_row(rank, row)) for row in (one, other)]
                if sizes[0] != sizes[1]:
                    self.assertEqual(self.check(rank, one, other)[:2], ("different", "length"))

    def test_levels(self):
        for rank in (2, 3):
            for rows in LEVELS[rank]:
                for k, one in enumerate(rows):
                    for m, other in enumerate(rows):
                        first = some_way(k, rank, one, 40)[1]
                        second = some_way(m + 10, rank, other, 40)[1]
                        for pair in [(one, other), (first, second)]:
                            made = self.check(rank, *pair)
                            self.assertEqual(made[:2] == ("different", "level"), k != m, pair)
                            self.assertEqual(made[0] == "equivalent", k == m)


class Errors(Sound):
    def fails(self, limit, rank, one, other):
        with self.assertRaises(TooLarge) as caught:
            equivalent(rank, one, other)
        self.assertEqual(caught.exception.limit, limit)

    def test_rank_4(self):
        for rows in LENGTHS.values():
            for row in rows:
                self.fails(3, 4, row, row)
                self.fails(3, 4, row, some_way(3, 4, row, 60)[1])
        self.fails(3, 4, ("aabb",), ("abAB",))
        self.fails(3, 4, ("a" * 25,), ("a" * 25,))

    def test_least_length_above_24(self):
        for rank in (2, 3):
            for row in [("a" * 25,), ("abAB" * 7,), ("a" * 20, "b" * 5), ("a" * 60,)]:
                self.fails(24, rank, row, row)
                self.fails(24, rank, row, some_way(3, rank, row, 60)[1])
                self.fails(24, rank, some_way(4, rank, row, 60)[1], row)
            self.fails(24, rank, ("a" * 25,), ("a" * 20 + "bbbbb",))
            self.assertEqual(self.check(rank, ("a" * 24,), ("b" * 24,))[0], "equivalent")
            self.assertEqual(self.check(rank, ("a" * 24,), ("abAB" * 6,))[1], "level")
            self.assertEqual(self.check(rank, ("a" * 25,), ("b" * 24,))[1], "length")
            # The rows may be longer than the minimal rows.
            self.assertEqual(self.check(rank, ("a" * 24 + "b",), ("b",))[0], "equivalent")

    def test_levels_above_40(self):
        for row in [("ABBB", "AcBC", "C"), ("AAABc", "abCC"), ("acABBACbbAB",), ("accB", "AB", "b")]:
            self.assertGreater(len(plain_level(3, row)), 40)
            self.fails(40, 3, row, row)
            self.fails(40, 3, row, some_way(1, 3, row, 60)[1])
            self.fails(40, 3, some_way(1, 3, row, 60)[1], row)

    def test_the_level_of_the_first_row_decides(self):
        large = ("AAABc", "abCC")
        small = ("aaaaa", "bbbb")
        self.fails(40, 3, large, small)
        self.assertEqual(self.check(3, small, large)[:2], ("different", "level"))

    def test_different_lengths_and_counts_need_no_level(self):
        large = ("AAABc", "abCC")
        self.assertEqual(self.check(3, large, ("a", "b"))[:2], ("different", "length"))
        self.assertEqual(self.check(3, large, ("a",)), ("different", "count"))
        self.assertEqual(self.check(4, ("a",), ("aa",))[:2], ("different", "length"))


class Accepted(Sound):
    """Other valid results than the ones that `equivalent` returns."""

    def detours(self, rank, row, longest):
        """Routes that lead back to the row, the longest row on the way of each one above the row and up to longest."""
        found = []
        for move in all_moves(rank):
            size = row_size(plain_row(plain_substitution(rank, move), row))
            if row_size(row) < size <= longest:
                found.append((move,) + undone_route([move]))
        return found

    def test_detours_in_verdicts_of_different_rows(self):
        for rank in RANKS:
            pairs = [(("aa",), ("a",)), (("abAB", "b"), ("aa", "b"))]
            if rank < 4:
                pairs += [(("aabb",), ("abAB",)), (("aaa", "b"), ("a", "bbb"))]
            for one, other in pairs:
                made = equivalent(rank, one, other)
                second = 4 if made[1] == "length" else 3
                for way in self.detours(rank, one, 60)[::3]:
                    thing = made[:2] + (way + made[2],) + made[3:]
                    self.assertIs(check_verdict(rank, one, other, thing), True)
                for way in self.detours(rank, other, 60)[::3]:
                    thing = made[:second] + (way + made[second],) + made[second + 1:]
                    self.assertIs(check_verdict(rank, one, other, thing), True)

    def test_detours_up_to_60_letters(self):
        stretch = ("move", "a", "ab")
        for rank in RANKS:
            for one, other in [(("bb",), ("b",)), (("bbbb",), ("abAB",))]:
                if rank == 4 and other == ("abAB",):
                    continue
                made = equivalent(rank, one, other)
                # bb becomes baba, baabaa, and so on; bbbb becomes babababa, and so on.
                most = 29 if len(one[0]) == 2 else 14
                for count, allowed in [(most - 1, True), (most, True), (most + 1, False), (most + 2, False)]:
                    there = (stretch,) * count
                    thing = made[:2] + (there + undone_route(there) + made[2],) + made[3:]
                    self.assertIs(check_verdict(rank, one, other, thing), allowed, count)

    def test_detours_in_verdicts_of_equivalent_rows(self):
        for rank in RANKS:
            for seed, row in enumerate([("a",), ("abAB",), ("aab", "b"), ("aabbAB",)]):
                route, other = some_way(seed, rank, row, 30)
                limit = longer(row, other)
                allowed = max(row_size(each) for each in plain_way(rank, row, route)) <= limit
                self.assertIs(check_verdict(rank, row, other, ("equivalent", route)), allowed)
                for way in self.detours(rank, row, 60):
                    top = max(row_size(each) for each in plain_way(rank, row, way))
                    thing = ("equivalent", way + route)
                    self.assertIs(check_verdict(rank, row, other, thing), allowed and top <= limit)
                    self.assertIs(check_verdict(rank, row, row, ("equivalent", way)), False)

    def test_routes_of_all_ranks(self):
        for rank in RANKS:
            count = 0
            for seed in range(60):
                row = some_row(seed, rank, 10, 1 + seed % 4)
                route, other = some_way(seed, rank, row, 60)
                top = max(row_size(each) for each in plain_way(rank, row, route))
                allowed = top <= longer(row, other)
                self.assertIs(check_verdict(rank, row, other, ("equivalent", route)), allowed)
                back = ("equivalent", undone_route(route))
                self.assertIs(check_verdict(rank, other, row, back), allowed)
                count += allowed
            self.assertGreater(count, 10)
            self.assertLess(count, 55)

    def test_two_levels_together(self):
        for rank in (2, 3):
            for rows in LEVELS[rank]:
                one, other, third = rows[:3]
                first, second, more = (level(rank, row) for row in rows[:3])
                both = tuple(sorted(first + more, key=row_key))
                self.assertIs(check_verdict(rank, one, other, ("different", "level", (), (), first)), True)
                self.assertIs(check_verdict(rank, one, other, ("different", "level", (), (), both)), True)
                self.assertIs(check_verdict(rank, third, other, ("different", "level", (), (), both)), True)
                self.assertIs(check_verdict(rank, one, third, ("different", "level", (), (), both)), False)
                self.assertIs(check_verdict(rank, one, other, ("different", "level", (), (), second)), False)
                self.assertIs(check_verdict(rank, one, other, ("different", "level", (), (), more)), False)
                # The canonical row of the second row must be outside.
                wrong = tuple(sorted(first + second, key=row_key))
                self.assertIs(check_verdict(rank, one, other, ("different", "level", (), (), wrong)), False)


class Rejected(Sound):
    def verdicts(self, rank):
        """Rows with a verdict on them that is not "count"."""
        pairs = [(("ab",), ("b",)), (("aab", "b"), ("a", "b")), (("a" * 9,), ("b" * 9,)), (("abAB",), ("abAB",))]
        pairs += [(("ab",), ("aa",)), (("aab", "b"), ("abAB", "b")), (("aabaB",), ("aa",))]
        pairs += [(("ab", "ab"), ("a", "A")), (("aaabaab",), ("aaabbb",)), (("aabb",), ("aaaa",))]
        for one, other in pairs:
            if rank < 4:
                yield one, other, equivalent(rank, one, other)
        if rank == 4:
            route, other = some_way(1, 4, ("abc",), 3)
            yield ("abc",), other, ("equivalent", route)
            for one, other in pairs[4:7]:
                yield one, other, equivalent(rank, one, other)

    def reject(self, rank, one, other, thing):
        self.assertIs(check_verdict(rank, one, other, thing), False, (one, other, thing))

    def test_items_missing_or_more(self):
        for rank in RANKS:
            for one, other, made in self.verdicts(rank):
                for k in range(len(made)):
                    self.reject(rank, one, other, made[:k] + made[k + 1:])
                    self.reject(rank, one, other, made[:k] + made[k:k + 1] + made[k:])
                for more in [(), None, "", made]:
                    self.reject(rank, one, other, made + (more,))
                things = [list(made), (made,), made[::-1], made[1:], made[:1], made[1::-1] + made[2:], {made[0]: 1}]
                for thing in things:
                    self.reject(rank, one, other, thing)

    def judge(self, rank, one, other, thing):
        """Changed verdicts may be verdicts again, for example if a row needs no route."""
        made = check_verdict(rank, one, other, thing)
        self.assertIs(made, plain_is_verdict(rank, one, other, thing), (one, other, thing))
        return made

    def test_items_of_other_kinds(self):
        values = nested_values() + [("equivalent", ()), ("different", "count"), "equivalent", "different", "length"]
        for rank in RANKS:
            made = []
            for one, other, verdict in self.verdicts(rank):
                for k in range(len(verdict)):
                    made += [
                        self.judge(rank, one, other, verdict[:k] + (value,) + verdict[k + 1:])
                        for value in values if value != verdict[k]
                    ]
            self.assertGreater(made.count(False), 50 * made.count(True))

    def test_names(self):
        for rank in RANKS:
            for one, other, made in self.verdicts(rank):
                names = ["Equivalent", "equivalent ", "equal", "", b"equivalent", ("equivalent",), 0, True, "different"]
                for name in names + ["equivalent"] * (made[0] == "different"):
                    if name != made[0]:
                        self.reject(rank, one, other, (name,) + made[1:])
                if made[0] == "different":
                    for name in ["count", "Length", "levels", "length", "level", b"level", ("level",), None, 0]:
                        if name != made[1]:
                            self.reject(rank, one, other, made[:1] + (name,) + made[2:])

    def test_count(self):
        for rank in RANKS:
            self.assertIs(check_verdict(rank, ("a",), ("a", "b"), ("different", "count")), True)
            self.reject(rank, ("a",), ("a", "b"), ["different", "count"])
            self.reject(rank, ("a",), ("a", "b"), ("different", "count", ()))
            self.reject(rank, ("a",), ("a", "b"), ("different",))
            self.reject(rank, ("a",), ("a", "b"), ("different", "length"))
            self.reject(rank, ("a",), ("a", "b"), ("equivalent", ()))
            for one, other, _ in self.verdicts(rank):
                self.reject(rank, one, other, ("different", "count"))

    def test_other_verdicts_for_different_counts(self):
        ends = [certificate(2, row) for row in [("a",), ("a", "b"), ("aa",), ("a", "a")]]
        self.reject(2, ("a",), ("a", "b"), ("different", "length", (), ends[0], (), ends[1]))
        self.reject(2, ("a", "b"), ("a",), ("different", "length", (), ends[1], (), ends[0]))
        self.reject(2, ("aa",), ("a", "a"), ("different", "level", (), (), (("aa",),)))
        self.reject(2, ("a", "a"), ("aa",), ("different", "level", (), (), (("a", "a"),)))
        self.assertIs(check_verdict(2, ("aa",), ("a", "a"), ("different", "count")), True)

    def changed_routes(self, rank, row, route):
        """Tuples of steps that lead elsewhere."""
        end = plain_way(rank, row, route)[-1]
        found = [route[:k] + route[k + 1:] for k in range(len(route))]
        for move in all_moves(rank)[3::5]:
            found += [route + (move,), (move,) + route]
            found += [route[:k] + (move,) + route[k + 1:] for k in range(len(route))]
        return [other for other in found if plain_way(rank, row, other)[-1] != end]

    def wrong_routes(self, rank, route):
        """Values that are no tuples of steps."""
        found = [list(route), (route,), route + (None,), route + ((),), [route], "", None, dict.fromkeys(route)]
        found += [route + (step,) for step in bad_steps(rank)[::4]]
        found += [(step,) + route for step in bad_steps(rank)[1::4]]
        found += [route[:k] + (list(step),) + route[k + 1:] for k, step in enumerate(route)]
        return found

    def test_equivalent_rows(self):
        for rank in RANKS:
            for one, other, made in self.verdicts(rank):
                if made[0] != "equivalent":
                    continue
                for route in self.changed_routes(rank, one, made[1]) + self.wrong_routes(rank, made[1]):
                    self.reject(rank, one, other, ("equivalent", route))
                if one != other:
                    self.reject(rank, one, other, ("equivalent", ()))
                    self.reject(rank, other + ("a",), one + ("a",), made)

    def test_routes_to_other_lengths_and_levels(self):
        for rank in RANKS:
            for one, other, made in self.verdicts(rank):
                if made[0] == "equivalent":
                    continue
                at = (2, 4) if made[1] == "length" else (2, 3)
                for k, row in zip(at, (one, other)):
                    for route in self.wrong_routes(rank, made[k]):
                        self.reject(rank, one, other, made[:k] + (route,) + made[k + 1:])
                    for route in self.changed_routes(rank, row, made[k]):
                        self.judge(rank, one, other, made[:k] + (route,) + made[k + 1:])

    def test_certificates_of_other_rows(self):
        for rank in RANKS:
            for one, other, made in self.verdicts(rank):
                if made[:2] != ("different", "length"):
                    continue
                self.reject(rank, one, other, made[:3] + (made[5],) + made[4:])
                self.reject(rank, one, other, made[:5] + (made[3],))
                self.reject(rank, one, other, made[:2] + made[4:] + made[2:4])
                self.assertIs(check_verdict(rank, other, one, made[:2] + made[4:] + made[2:4]), True)
                self.reject(rank, other, one, made)
                for k in (3, 5):
                    flows = made[k]
                    for thing in (flows[:-1], flows + ((),), list(flows), flows[::-1], ((),) * rank, None, ()):
                        if thing != flows:
                            self.reject(rank, one, other, made[:k] + (thing,) + made[k + 1:])

    def test_equal_lengths(self):
        for rank in RANKS:
            for one, other in [(("a",), ("a",)), (("a",), ("b",)), (("aabb",), ("abAB",)), (("aa", "b"), ("a", "bb"))]:
                ends = [certificate(rank, row) for row in (one, other)]
                self.reject(rank, one, other, ("different", "length", (), ends[0], (), ends[1]))

    def test_rows_that_are_not_closed(self):
        for rank in (2, 3):
            for one, other, made in self.verdicts(rank):
                if made[:2] != ("different", "level"):
                    continue
                rows = made[4]
                things = [list(rows), rows + rows[-1:], (), (rows,), rows + (None,), rows[0], set(rows), None]
                things += [tuple(list(row) for row in rows)]
                if len(rows) > 1:
                    things += [rows[::-1], rows[1:], rows[:-1]]
                things += [tuple(plain_step(rank, ("relabel", "BA" + "c" * (rank - 2)), row) for row in rows)]
                for thing in things:
                    if thing != rows:
                        self.reject(rank, one, other, made[:4] + (thing,))

    def test_a_second_row_of_another_length(self):
        for rank in (2, 3):
            for one, other, rows in [
                (("aa",), ("aaa",), (("aa",),)), (("abAB",), ("aa",), (("abAB",),)), (("aa",), ("abb",), (("aa",),)),
                (("a",), ("ab",), (("a",),)), (("a",), ("aab",), (("a",),)),
            ]:
                self.reject(rank, one, other, ("different", "level", (), (), rows))
        # A second row that is not minimal is allowed if it has the length.
        self.assertIs(check_verdict(2, ("aa",), ("ab",), ("different", "level", (), (), (("aa",),))), True)

    def test_rank_4_has_no_levels(self):
        for rows in LEVELS[2] + LEVELS[3]:
            for one in rows:
                for other in rows:
                    if one != other:
                        thing = ("different", "level", (), (), (plain_canonical(4, one),))
                        self.reject(4, one, other, thing)

    def test_no_pair_has_verdicts_of_both_kinds(self):
        self.reject(2, ("a",), ("b",), ("different", "level", (), (), (("a",),)))
        self.reject(2, ("aa",), ("bb",), ("different", "level", (), (), (("aa",),)))
        self.reject(2, ("aa",), ("a",), ("equivalent", ()))

    def test_values_of_all_kinds(self):
        pairs = [(("a",), ("b",)), (("a",), ("aa",)), (("aabb",), ("abAB",)), (("a",), ("a", "b"))]
        for rank in RANKS:
            for one, other in pairs:
                for thing in nested_values() + bad_steps(rank)[::3] + bad_rows(rank)[::3]:
                    self.reject(rank, one, other, thing)
                for value in nested_values():
                    if value != ():
                        self.reject(rank, one, other, ("equivalent", value))
                    self.reject(rank, one, other, ("different", value))
                    self.reject(rank, one, other, ("different", "length", value, value, value, value))
                    self.reject(rank, one, other, ("different", "level", value, value, value))
                    self.reject(rank, one, other, ("different", "length", (), value, (), value))
                    if value != (("a",),):
                        self.reject(rank, one, other, ("different", "level", (), (), value))

    def test_errors_come_before_things(self):
        for thing in (None, ("equivalent", ()), ("different", "count")):
            self.assertRaises(BadRank, check_verdict, 5, (), (), thing)
            self.assertRaises(BadRow, check_verdict, 2, ["a"], ("a",), thing)
            self.assertRaises(BadRow, check_verdict, 2, ("a",), ["a"], thing)


if __name__ == "__main__":
    unittest.main()
