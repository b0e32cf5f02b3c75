"""Points 11 to 13: moves, relabelings, routes, totals, walks and factors."""

import unittest

from plain import (
    BASE, RANKS, all_moves, all_relabelings, all_steps, plain_compose, plain_identity, plain_row, plain_substitution,
    plain_total, row_size, undone_route,
)
from reference import OPPOSITE, SETS, some_word
from ringleast.errors import BadStep, NotInvertible, TooLong
from ringleast.rings import is_row
from ringleast.steps import factor, is_step, moves, step_row, substitution_of, total, undo_step, walk
from samples import NONE, automorphisms, conjugation, some_automorphism, some_route, some_row, some_rows
from wrong import bad_moves, bad_relabelings, bad_steps, not_routes


# All ends of STEEP have at most 46 letters in an image. Its inverse takes c to a word of 496 letters.
STEEP = (("move", "A", "AB"),) * 10 + (("move", "B", "BC"),) * 45
STEEP_BACK = undone_route(STEEP)


class IsStep(unittest.TestCase):
    def test_all_steps(self):
        for rank in RANKS:
            for step in all_steps(rank):
                self.assertIs(is_step(rank, step), True)

    def test_changed_steps(self):
        for rank in RANKS:
            for thing in bad_steps(rank):
                self.assertIs(is_step(rank, thing), False, repr(thing)[:60])

    def test_a_value_that_is_equal_to_all_others(self):
        class Equal:
            def __eq__(self, other):
                return True

        for thing in [(Equal(), "a", "ab"), ("move", Equal(), "ab"), ("move", "a", Equal()), (Equal(), "ab"), Equal()]:
            self.assertIs(is_step(2, thing), False)

    def test_all_short_sides(self):
        for rank in (2, 3):
            good = {(move[1], move[2]) for move in all_moves(rank)}
            sides = [""]
            for _ in range(3):
                sides += [side + letter for side in sides if len(side) < 3 for letter in SETS[4]]
            for s in SETS[4]:
                for side in set(sides):
                    expected = (s, side) in good
                    self.assertIs(is_step(rank, ("move", s, side)), expected, (s, side))

    def test_all_names_of_relabelings(self):
        for rank in (2, 3):
            names = [""]
            for _ in range(rank + 1):
                names += [name + x for name in names if len(name) <= rank for x in SETS[4]]
            good = [step[1] for step in all_relabelings(rank)]
            for name in set(names):
                self.assertIs(is_step(rank, ("relabel", name)), name in good, name)

    def test_the_rank_matters(self):
        for rank in RANKS:
            for step in all_steps(4)[::7] + all_steps(3)[::3] + all_steps(2):
                self.assertIs(is_step(rank, step), step in all_steps(rank), (rank, step))

    def test_lists_and_strings(self):
        for rank in RANKS:
            for step in all_steps(rank)[::5]:
                for thing in (list(step), " ".join(step), step[1:], step + ("a",), (step,), step[:-1], step[::-1]):
                    self.assertIs(is_step(rank, thing), False, thing)


class Moves(unittest.TestCase):
    def test_numbers(self):
        self.assertEqual([len(moves(rank)) for rank in RANKS], [16, 96, 512])

    def test_all_in_order(self):
        for rank in RANKS:
            self.assertEqual(moves(rank), all_moves(rank))
            self.assertTrue(all(is_step(rank, move) for move in moves(rank)))

    def test_the_moves_of_rank_2(self):
        sides = [
            "a ab abB aB", "A Ab AbB AB", "aAb ab Ab b", "aAB aB AB B",
        ]
        expected = [("move", s, side) for s, row in zip("aAbB", sides) for side in row.split()]
        self.assertEqual(moves(2), expected)

    def test_a_new_list_each_time(self):
        for rank in RANKS:
            first = moves(rank)
            self.assertIs(type(first), list)
            second = moves(rank)
            self.assertIsNot(first, second)
            first.clear()
            second.append("more")
            self.assertEqual(moves(rank), all_moves(rank))
            self.assertTrue(all(type(move) is tuple for move in moves(rank)))


class UndoStep(unittest.TestCase):
    def test_both_compositions_are_the_identity(self):
        for rank in RANKS:
            for step in all_steps(rank):
                back = undo_step(rank, step)
                self.assertIs(is_step(rank, back), True)
                there = plain_substitution(rank, step)
                again = plain_substitution(rank, back)
                self.assertEqual(plain_compose(there, again), plain_identity(rank))
                self.assertEqual(plain_compose(again, there), plain_identity(rank))

    def test_moves(self):
        for rank in RANKS:
            for move in all_moves(rank):
                _, s, side = move
                letters = [OPPOSITE[s] if x == s else x for x in side]
                self.assertEqual(undo_step(rank, move), ("move", OPPOSITE[s], "".join(letters)))

    def test_relabelings(self):
        for rank in RANKS:
            for step in all_relabelings(rank):
                self.assertEqual(undo_step(rank, step), undone_route([step])[0])
        self.assertEqual(undo_step(2, ("relabel", "bA")), ("relabel", "Ba"))
        self.assertEqual(undo_step(3, ("relabel", "bca")), ("relabel", "cab"))
        self.assertEqual(undo_step(4, ("relabel", "DaCb")), ("relabel", "bdCA"))

    def test_wrong_steps(self):
        for rank in RANKS:
            for thing in bad_steps(rank):
                with self.assertRaises(BadStep) as caught:
                    undo_step(rank, thing)
                self.assertIsNone(caught.exception.index)


class SubstitutionOf(unittest.TestCase):
    def test_letter_by_letter(self):
        for rank in RANKS:
            for step in all_steps(rank):
                self.assertEqual(substitution_of(rank, step), plain_substitution(rank, step), step)

    def test_some_moves(self):
        for rank, step, images in [
            (2, ("move", "a", "a"), ("a", "b")), (2, ("move", "a", "ab"), ("a", "ba")),
            (2, ("move", "a", "aB"), ("a", "Ab")), (2, ("move", "a", "abB"), ("a", "Aba")),
            (2, ("move", "A", "Ab"), ("a", "bA")), (2, ("move", "A", "AB"), ("a", "ab")),
            (2, ("move", "B", "aAB"), ("baB", "b")), (3, ("move", "c", "aBc"), ("ac", "Cb", "c")),
            (3, ("move", "B", "aABC"), ("baB", "b", "bc")), (4, ("move", "d", "AbcCd"), ("Da", "bd", "Dcd", "d")),
            (2, ("relabel", "bA"), ("b", "A")), (3, ("relabel", "cBa"), ("c", "B", "a")),
            (4, ("relabel", "dcBA"), ("d", "c", "B", "A")),
        ]:
            self.assertEqual(substitution_of(rank, step), images, step)

    def test_wrong_steps(self):
        for rank in RANKS:
            for thing in bad_steps(rank):
                with self.assertRaises(BadStep) as caught:
                    substitution_of(rank, thing)
                self.assertIsNone(caught.exception.index)


class Total(unittest.TestCase):
    def test_against_plain_totals(self):
        for rank in RANKS:
            for count in (0, 1, 2, 3, 5):
                for seed in range(25):
                    route = some_route(seed, rank, count)
                    expected = plain_total(rank, route)
                    if max(len(text) for text in expected) <= 100:
                        self.assertEqual(total(rank, route), expected)
                        self.assertEqual(total(rank, list(route)), expected)

    def test_the_empty_route(self):
        for rank in RANKS:
            self.assertEqual(total(rank, ()), plain_identity(rank))
            self.assertEqual(total(rank, []), plain_identity(rank))

    def test_the_first_step_is_applied_first(self):
        one, other = ("move", "a", "ab"), ("relabel", "bA")
        self.assertEqual(total(2, (one, other)), ("b", "Ab"))
        self.assertEqual(total(2, (other, one)), ("ba", "A"))
        for rank in RANKS:
            for seed in range(20):
                route = some_route(seed, rank, 3)
                expected = plain_identity(rank)
                for step in reversed(route):
                    expected = plain_compose(expected, plain_substitution(rank, step))
                self.assertEqual(total(rank, route), expected)

    def test_100_and_101_letters(self):
        step = ("move", "A", "AB")
        self.assertEqual(total(2, (step,) * 99), ("a", "a" * 99 + "b"))
        self.assertEqual(total(3, (step,) * 99), ("a", "a" * 99 + "b", "c"))
        for rank in RANKS:
            for count in (100, 101, 399):
                for route in ((step,) * count, [step] * count):
                    with self.assertRaises(TooLong) as caught:
                        total(rank, route)
                    self.assertEqual(caught.exception.limit, 100)

    def test_400_and_401_letters(self):
        step, back = ("move", "A", "AB"), ("move", "a", "aB")
        for rank in RANKS:
            self.assertEqual(total(rank, (back,) * 399 + (step,) * 399), plain_identity(rank))
            self.assertEqual(total(rank, (back,) * 300 + (step,) * 399)[1], "a" * 99 + "b")
            for route in [(step,) * 400, (back,) * 400 + (step,) * 400, (back,) * 301 + (step,) * 400, [step] * 1000]:
                with self.assertRaises(TooLong) as caught:
                    total(rank, route)
                self.assertEqual(caught.exception.limit, 400)
            with self.assertRaises(TooLong) as caught:
                total(rank, (back,) * 299 + (step,) * 399)
            self.assertEqual(caught.exception.limit, 100)

    def test_an_end_above_400_letters_though_the_total_is_short(self):
        self.assertEqual(max(len(text) for text in plain_total(3, STEEP_BACK)), 496)
        for route in [STEEP + STEEP_BACK, STEEP_BACK, (("relabel", "abc"),) + STEEP + STEEP_BACK]:
            with self.assertRaises(TooLong) as caught:
                total(3, route)
            self.assertEqual(caught.exception.limit, 400)
        self.assertEqual(plain_total(3, STEEP + STEEP_BACK), plain_identity(3))

    def test_beginnings_have_no_limit(self):
        self.assertEqual(total(3, STEEP), ("a", "a" * 10 + "b", "b" * 45 + "c"))
        self.assertEqual(total(3, STEEP_BACK + STEEP), plain_identity(3))
        self.assertEqual(total(3, list(STEEP_BACK + STEEP)), plain_identity(3))
        self.assertEqual(total(3, STEEP_BACK + STEEP + (("relabel", "cAB"),)), ("c", "A", "B"))

    def test_wrong_routes(self):
        for rank in RANKS:
            for thing in not_routes():
                with self.assertRaises(BadStep) as caught:
                    total(rank, thing)
                self.assertIsNone(caught.exception.index)
            for thing in bad_steps(rank):
                for before in (0, 1, 3):
                    good = (("relabel", BASE[rank]),) * before
                    for route in [good + (thing, thing), list(good) + [thing]]:
                        with self.assertRaises(BadStep) as caught:
                            total(rank, route)
                        self.assertEqual(caught.exception.index, before)
                        self.assertIs(type(caught.exception.index), int)

    def test_wrong_steps_come_before_the_limit(self):
        with self.assertRaises(BadStep) as caught:
            total(2, (("move", "A", "AB"),) * 500 + (None,))
        self.assertEqual(caught.exception.index, 500)


class StepRow(unittest.TestCase):
    def test_against_plain_rows(self):
        for rank in RANKS:
            for row in some_rows(rank, 14, 12):
                for step in all_steps(rank)[::3]:
                    self.assertEqual(step_row(rank, row, step), plain_row(plain_substitution(rank, step), row))

    def test_equal_results_of_a_move_and_the_move_of_the_other_letters(self):
        for rank in RANKS:
            for row in some_rows(rank, 14, 6):
                for move in all_moves(rank)[::5]:
                    others = "".join(x for x in SETS[rank] if x not in move[2])
                    other = ("move", OPPOSITE[move[1]], others)
                    self.assertEqual(step_row(rank, row, move), step_row(rank, row, other))

    def test_60_and_61_letters(self):
        step = ("move", "A", "AB")
        self.assertEqual(step_row(2, ("b" * 30,), step), ("ab" * 30,))
        self.assertEqual(step_row(2, ("a" * 30, "b" * 15), step), ("a" * 30, "ab" * 15))
        self.assertEqual(step_row(2, ("ab" * 30,), ("move", "a", "aB")), ("b" * 30,))
        self.assertEqual(step_row(2, ("a" * 60,), step), ("a" * 60,))
        self.assertEqual(step_row(2, ("b" * 60,), ("relabel", "ba")), ("a" * 60,))
        for row in [("a" * 31, "b" * 15), ("b" * 31,), ("b" * 60,), ("ab" * 30,), ("b" * 15, "b" * 15, "b", "A")]:
            with self.assertRaises(TooLong) as caught:
                step_row(2, row, step)
            self.assertEqual(caught.exception.limit, 60)

    def test_results_are_rows(self):
        for rank in RANKS:
            for seed in range(10):
                row = some_row(seed, rank, 60, 1 + seed % 4)
                for step in all_steps(rank)[::9]:
                    expected = plain_row(plain_substitution(rank, step), row)
                    if row_size(expected) > 60:
                        self.assertRaises(TooLong, step_row, rank, row, step)
                    else:
                        self.assertEqual(step_row(rank, row, step), expected)
                        self.assertIs(is_row(rank, expected), True)


class Walk(unittest.TestCase):
    def test_against_steps(self):
        for rank in RANKS:
            for seed in range(40):
                row = some_row(seed, rank, 9, 1 + seed % 4)
                route = some_route(seed, rank, seed % 6)
                on_the_way = [row]
                for step in route:
                    on_the_way.append(plain_row(plain_substitution(rank, step), on_the_way[-1]))
                for given in (route, list(route)):
                    if max(row_size(rings) for rings in on_the_way) <= 60:
                        self.assertEqual(walk(rank, row, given), on_the_way[-1])
                    else:
                        self.assertRaises(TooLong, walk, rank, row, given)

    def test_the_empty_route(self):
        for rank in RANKS:
            for row in some_rows(rank, 60, 6) + [("a" * 60,)]:
                self.assertEqual(walk(rank, row, ()), row)
                self.assertEqual(walk(rank, row, []), row)

    def test_a_row_on_the_way_above_60(self):
        step, back = ("move", "A", "AB"), ("move", "a", "aB")
        self.assertEqual(walk(2, ("b" * 30,), (step, back)), ("b" * 30,))
        self.assertEqual(walk(2, ("b" * 20,), [step, step, back, back]), ("b" * 20,))
        for row, route in [
            (("b" * 31,), (step, back)), (("b" * 31,), [step, back]), (("b" * 20,), [step] * 3 + [back] * 3),
            (("b" * 20,), [step] * 3), (("b" * 30, "a"), (step, back)), (("b" * 60,), (step, back, back, step)),
        ]:
            with self.assertRaises(TooLong) as caught:
                walk(2, row, route)
            self.assertEqual(caught.exception.limit, 60)

    def test_a_long_total_is_no_limit(self):
        self.assertEqual(walk(3, ("a",), STEEP + STEEP_BACK), ("a",))
        self.assertEqual(walk(3, ("a", "b"), (("move", "A", "AC"),) * 500), ("a", "b"))

    def test_wrong_routes(self):
        for rank in RANKS:
            for thing in not_routes():
                with self.assertRaises(BadStep) as caught:
                    walk(rank, ("a",), thing)
                self.assertIsNone(caught.exception.index)
            for thing in bad_moves(rank)[::3] + bad_relabelings(rank)[::3]:
                with self.assertRaises(BadStep) as caught:
                    walk(rank, ("b" * 60,), [("move", "A", "AB"), ("move", "A", "AB"), thing, None])
                self.assertEqual(caught.exception.index, 2)

    def test_the_route_is_not_changed(self):
        route = [("move", "A", "AB"), ("relabel", "ba")]
        walk(2, ("ab",), route)
        total(2, route)
        self.assertEqual(route, [("move", "A", "AB"), ("relabel", "ba")])


class Factor(unittest.TestCase):
    def check(self, rank, substitution):
        route = factor(rank, substitution)
        self.assertIs(type(route), tuple)
        for step in route:
            self.assertIn(step, STEPS[rank])
        self.assertEqual(total(rank, route), substitution)

    def test_automorphisms(self):
        for rank in RANKS:
            for substitution in automorphisms(rank):
                self.check(rank, substitution)

    def test_plain_totals_and_ends(self):
        for rank in RANKS:
            for seed in range(10):
                substitution = some_automorphism(seed, rank, 60)
                images = plain_identity(rank)
                for step in reversed(factor(rank, substitution)):
                    images = plain_compose(images, plain_substitution(rank, step))
                    self.assertLessEqual(max(len(text) for text in images), 400)
                self.assertEqual(images, substitution)

    def test_long_images(self):
        for rank in RANKS:
            rest = plain_identity(rank)[2:]
            for pair in [("ab" * 49 + "a", "ab"), ("a" * 99 + "b", "a"), ("B" * 50 + "a" + "b" * 49, "b")]:
                self.check(rank, pair + rest)
            for size in (10, 30, 49):
                for seed in range(4):
                    word = some_word(seed, rank, size)
                    self.check(rank, conjugation(rank, word))
        self.check(3, ("a", "a" * 10 + "b", "b" * 45 + "c"))
        self.check(4, ("a", "a" * 99 + "b", "b" * 99 + "c", "c" * 99 + "d"))

    def test_neighbours_in_length(self):
        """Words of equal length that products of two do not shorten at once."""
        for rank in (3, 4):
            for seed in range(150):
                route = tuple(
                    ("move", step[1], "".join(x for x in SETS[rank] if x == step[1] or x == step[2][-1]))
                    for step in some_route(seed, rank, 12) if step[0] == "move"
                )
                substitution = plain_total(rank, route)
                if max(len(word) for word in substitution) <= 100:
                    self.check(rank, substitution)

    def test_the_identity(self):
        for rank in RANKS:
            self.check(rank, plain_identity(rank))

    def test_not_invertible(self):
        for rank in RANKS:
            for substitution in NONE[rank]:
                self.assertRaises(NotInvertible, factor, rank, substitution)

    def test_the_same_result_each_time(self):
        for rank in RANKS:
            for seed in range(5):
                substitution = some_automorphism(seed, rank, 30)
                self.assertEqual(factor(rank, substitution), factor(rank, substitution))


STEPS = {rank: set(all_steps(rank)) for rank in RANKS}


if __name__ == "__main__":
    unittest.main()
