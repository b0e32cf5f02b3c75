"""Point 31: for each function, several invalid values at once. The error is the one of the first invalid parameter."""

import unittest
from itertools import product

from plain import BASE, RANKS
from reference import bad_ranks, bad_words
from ringleast.errors import (
    BadLetter, BadRank, BadRow, BadStep, BadSubstitution, BadWord, NotMinimal, TooLarge, TooLong,
)
from ringleast.flows import certificate, check_certificate, least_cut, paths
from ringleast.graphs import change, components, cut, degree, edges
from ringleast.levels import canonical, is_closed, level, neighbours
from ringleast.minimal import is_minimal, least_length, reduce_row, shorten
from ringleast.separation import check_primitive, check_separation, primitive, separate
from ringleast.steps import factor, is_step, moves, step_row, substitution_of, total, undo_step, walk
from ringleast.substitutions import apply, compose, image, is_automorphism, undo
from ringleast.verdicts import check_verdict, equivalent
from wrong import bad_letters, bad_rows, bad_sides, bad_steps, bad_substitutions, nested_values, not_routes

SUBSTITUTIONS = ["substitution", "outer", "inner"]
FUNCTIONS = {
    image: ["substitution", "word"],
    compose: ["outer", "inner"],
    is_automorphism: ["substitution"],
    undo: ["substitution"],
    apply: ["substitution", "row"],
    is_step: ["thing"],
    moves: [],
    undo_step: ["step"],
    substitution_of: ["step"],
    total: ["route"],
    step_row: ["row", "step"],
    walk: ["row", "route"],
    factor: ["substitution"],
    edges: ["row"],
    degree: ["row", "letter"],
    cut: ["row", "side"],
    change: ["row", "step"],
    components: ["row"],
    least_cut: ["row", "letter"],
    paths: ["row", "letter"],
    certificate: ["row"],
    check_certificate: ["row", "thing"],
    is_minimal: ["row"],
    shorten: ["row"],
    reduce_row: ["row"],
    least_length: ["row"],
    canonical: ["row"],
    neighbours: ["row"],
    level: ["row"],
    is_closed: ["thing"],
    equivalent: ["one", "other"],
    check_verdict: ["one", "other", "thing"],
    separate: ["row"],
    check_separation: ["row", "thing"],
    primitive: ["word"],
    check_primitive: ["word", "thing"],
}
ERRORS = {
    "substitution": BadSubstitution, "outer": BadSubstitution, "inner": BadSubstitution, "word": BadWord, "row": BadRow,
    "one": BadRow, "other": BadRow, "step": BadStep, "route": BadStep, "letter": BadLetter, "side": BadLetter,
}
# Valid values that lead to an error of their own, which comes after all parameters, come first in each list.
LIMITS = {
    "word": ["ab" * 50, "a"], "row": [("ab" * 30,), ("a",)], "letter": ["b"], "side": ["", "ab"], "thing": [None, ()],
    "one": [("ab" * 30,), ("a",)], "other": [("ab" * 30,), ("a", "a")],
    "step": [("move", "A", "AB")], "route": [[("move", "A", "AB")] * 500, ()],
}


def good_values(rank, name):
    if name in SUBSTITUTIONS:
        return [("a" * 100, "b" * 100, "c", "d")[:rank], tuple(BASE[rank])]
    return LIMITS[name]


def wrong_routes(rank):
    """Values that are no routes, with the field of the error."""
    found = [(value, None) for value in not_routes()]
    for thing in bad_steps(rank)[::9] + [None, (), []]:
        found += [((thing,), 0), ([thing, None], 0), ((("relabel", BASE[rank]),) * 7 + (thing,), 7)]
    return found


def wrong_values(rank, name):
    """Invalid values for a parameter, each with the field of its error, or with "no field"."""
    if name == "route":
        return wrong_routes(rank)
    if name == "step":
        return [(value, None) for value in bad_steps(rank)]
    rows = {"row": bad_rows, "one": bad_rows, "other": bad_rows}
    values = {"word": bad_words, "letter": bad_letters, "side": bad_sides, **rows}.get(name, bad_substitutions)
    return [(value, "no field") for value in values(rank)]


class Parameters(unittest.TestCase):
    def check(self, function, rank, names, values, error, field):
        calls = [((rank,) + values, {}), ((), dict(zip(["rank"] + names, (rank,) + values)))]
        for arguments, keywords in calls:
            with self.assertRaises(ValueError) as caught:
                function(*arguments, **keywords)
            self.assertIs(type(caught.exception), error, (function.__name__, values))
            if field != "no field":
                self.assertIs(type(caught.exception.index), type(field))
                self.assertEqual(caught.exception.index, field)

    def test_one_wrong_value(self):
        for function, names in FUNCTIONS.items():
            for rank in RANKS:
                for at, name in enumerate(names):
                    if name == "thing":
                        continue
                    others = [good_values(rank, other)[:2] for other in names]
                    for value, field in wrong_values(rank, name):
                        for chosen in list(product(*others))[:2]:
                            values = chosen[:at] + (value,) + chosen[at + 1:]
                            self.check(function, rank, names, values, ERRORS[name], field)

    def test_two_wrong_values(self):
        for function, names in FUNCTIONS.items():
            if len(names) < 2 or names[1] == "thing":
                continue
            for rank in RANKS:
                first, second = wrong_values(rank, names[0]), wrong_values(rank, names[1])
                more = (None,) * (len(names) - 2)
                for k, (value, field) in enumerate(first):
                    for other, _ in (second[k % len(second)], second[0], second[-1]):
                        self.check(function, rank, names, (value, other) + more, ERRORS[names[0]], field)
                for k, (other, _) in enumerate(second):
                    value, field = first[k % len(first)]
                    self.check(function, rank, names, (value, other) + more, ERRORS[names[0]], field)

    def test_a_wrong_rank_comes_first(self):
        for function, names in FUNCTIONS.items():
            for rank in bad_ranks():
                good = tuple(good_values(2, name)[0] for name in names)
                self.check(function, rank, names, good, BadRank, "no field")
                for k in range(0, 60, 7):
                    wrong = []
                    for name in names:
                        values = [(value, None) for value in nested_values()]
                        if name != "thing":
                            values = wrong_values(2, name)
                        wrong.append(values[k % len(values)][0])
                    self.check(function, rank, names, tuple(wrong), BadRank, "no field")

    def test_values_of_a_higher_rank(self):
        for function, names in FUNCTIONS.items():
            values = {
                "substitution": ("a", "b", "c"), "outer": ("a", "b", "c"), "inner": ("a", "b", "c"), "word": "c",
                "row": ("c",), "one": ("c",), "other": ("c",), "step": ("move", "a", "ac"),
                "route": [("relabel", "cab")], "letter": "c", "side": "ac",
            }
            for at, name in enumerate(names):
                if name == "thing":
                    continue
                given = tuple(good_values(2, other)[-1] for other in names[:at]) + tuple(
                    values.get(other) for other in names[at:]
                )
                field = {"step": None, "route": 0}.get(name, "no field")
                self.check(function, 2, names, given, ERRORS[name], field)


class Things(unittest.TestCase):
    def test_is_step_raises_bad_rank_only(self):
        for rank in RANKS:
            for thing in bad_steps(rank) + bad_rows(rank) + bad_substitutions(rank):
                self.assertIs(is_step(rank, thing), False)

    def test_check_certificate_raises_bad_rank_and_bad_row_only(self):
        for rank in RANKS:
            for thing in bad_steps(rank) + bad_substitutions(rank)[::3]:
                self.assertIs(check_certificate(rank, ("abAB",), thing), False)
                self.assertIs(check_certificate(rank, ("ab",), thing=thing), False)
                self.assertRaises(BadRow, check_certificate, rank, ["ab"], thing)
                self.assertRaises(BadRank, check_certificate, rank + 3, ["ab"], thing)

    def test_false_for_values_of_all_kinds(self):
        before = {"row": ("abAB",), "one": ("ab",), "other": ("b",), "word": "ab"}
        for function, names in FUNCTIONS.items():
            if names[-1:] != ["thing"]:
                continue
            for rank in RANKS:
                given = {name: before[name] for name in names[:-1]}
                for thing in bad_steps(rank)[::2] + bad_substitutions(rank)[::5] + bad_rows(rank)[::2]:
                    if thing != (("a",),):
                        self.assertIs(function(rank, *given.values(), thing), False)
                        self.assertIs(function(thing=thing, rank=rank, **given), False)


class LimitsComeLast(unittest.TestCase):
    def test_too_long(self):
        step = ("move", "A", "AB")
        self.assertRaises(TooLong, image, 2, ("a" * 100, "b"), "aa")
        self.assertRaises(BadWord, image, 2, ("a" * 100, "b"), "aA")
        self.assertRaises(TooLong, compose, 2, ("a" * 100, "b"), ("aa", "b"))
        self.assertRaises(BadSubstitution, compose, 2, ("a" * 100, "b"), ("aa",))
        self.assertRaises(BadRow, apply, 2, ("a" * 61, "b"), ("ba",))
        self.assertRaises(BadRow, apply, 2, ("a", "a" * 61 + "b"), ("ba",))
        self.assertRaises(TooLong, apply, 2, ("a", "a" * 61 + "b"), ("b",))
        self.assertRaises(TooLong, step_row, 2, ("b" * 60,), step)
        self.assertRaises(BadStep, step_row, 2, ("b" * 60,), list(step))
        self.assertRaises(TooLong, walk, 2, ("b" * 60,), [step])
        self.assertRaises(BadStep, walk, 2, ("b" * 60,), [step, list(step)])
        self.assertRaises(TooLong, total, 2, [step] * 101)
        self.assertRaises(BadStep, total, 2, [step] * 101 + [list(step)])

    def test_too_large_and_not_minimal(self):
        long, short = ("a" * 60,), ("a",)
        self.assertRaises(TooLarge, level, 3, long)
        self.assertRaises(BadRow, level, 3, list(long))
        self.assertRaises(TooLarge, level, 4, ("ab",))
        self.assertRaises(BadRow, level, 4, ("ba",))
        self.assertRaises(NotMinimal, level, 3, ("ab",))
        self.assertRaises(TooLarge, equivalent, 4, short, short)
        self.assertRaises(BadRow, equivalent, 4, short, "a")
        self.assertRaises(BadRow, equivalent, 4, "a", short)
        self.assertRaises(TooLarge, equivalent, 3, long, long)
        self.assertRaises(BadRow, equivalent, 3, long, ("a" * 61,))
        self.assertRaises(TooLong, primitive, 3, "a" * 61)
        self.assertRaises(BadWord, primitive, 3, "a" * 61 + "A")


if __name__ == "__main__":
    unittest.main()
