"""Point 31: for each function, several invalid values at once. The error is the one of the first invalid parameter."""

import importlib
import unittest

from interface import PARAMETERS
from plain import BASE, RANKS, plain_identity
from reference import bad_ranks, bad_words, not_strings, texts_beyond
from ringleast.census import least_rings, orbits
from ringleast.errors import (
    BadLetter, BadPair, BadRank, BadRow, BadSize, BadStep, BadSubstitution, BadTables, BadText, BadWord, NotMinimal,
    TooLarge, TooLong,
)
from ringleast.flows import check_certificate
from ringleast.levels import level
from ringleast.rings import is_ring, is_row
from ringleast.separation import primitive
from ringleast.steps import is_step, step_row, total, walk
from ringleast.substitutions import apply, compose, image
from ringleast.verdicts import equivalent
from ringleast.words import is_word
from wrong import (
    bad_letters, bad_pairs, bad_rows, bad_sides, bad_sizes, bad_steps, bad_substitutions, bad_tables, nested_values,
    not_routes,
)

# What a parameter takes if its name does not tell.
KINDS = {
    ("product", "one"): "word", ("product", "other"): "word", ("reduce_text", "text"): "letters",
    ("equivalent", "one"): "row", ("equivalent", "other"): "row", ("check_verdict", "one"): "row",
    ("check_verdict", "other"): "row", ("compose", "outer"): "substitution", ("compose", "inner"): "substitution",
}
ERRORS = {
    "rank": BadRank, "word": BadWord, "letters": BadWord, "row": BadRow, "substitution": BadSubstitution,
    "step": BadStep, "route": BadStep, "letter": BadLetter, "side": BadLetter, "tables": BadTables, "pair": BadPair,
    "size": BadSize, "text": BadText,
}
FIELDS = {BadStep: "index", BadText: "line"}


def good_values(rank, kind):
    """Two valid values. The first one leads to an error of its own in some functions, behind all parameters."""
    return {
        "rank": [rank, rank],
        "word": ["ab" * 50, "a"],
        "letters": ["ab" * 200, "aA"],
        "row": [("ab" * 30,), ("a", "b")],
        "substitution": [("a" * 100, "b" * 100, "c", "d")[:rank], plain_identity(rank)],
        "step": [("move", "A", "AB"), ("relabel", BASE[rank])],
        "route": [[("move", "A", "AB")] * 500, ()],
        "letter": ["b", "A"],
        "side": ["", "ab"],
        "tables": [(((1, 1), (0, 1)),) * rank, (((0, -1), (1, 0)),) * rank],
        "pair": [(1, 0), (2, -3)],
        "size": [100, 1],
        "text": ["", "x"],
        "thing": [None, ()],
    }[kind]


def wrong_routes(rank):
    """Values that are no routes, with the field of the error."""
    found = [(value, None) for value in not_routes()]
    for thing in bad_steps(rank)[::9] + [None, (), []]:
        found += [((thing,), 0), ([thing, None], 0), ((("relabel", BASE[rank]),) * 7 + (thing,), 7)]
    return found


def wrong_values(rank, kind):
    """Invalid values for a parameter, each with the field of its error."""
    if kind == "route":
        return wrong_routes(rank)
    if kind == "step":
        return [(value, None) for value in bad_steps(rank)]
    if kind == "text":
        return [(value, 0) for value in not_strings()]
    found = {
        "rank": lambda: bad_ranks(),
        "word": lambda: bad_words(rank),
        "letters": lambda: not_strings() + texts_beyond(rank),
        "row": lambda: bad_rows(rank),
        "substitution": lambda: bad_substitutions(rank),
        "letter": lambda: bad_letters(rank),
        "side": lambda: bad_sides(rank),
        "tables": lambda: bad_tables(rank),
        "pair": lambda: bad_pairs(),
        "size": lambda: bad_sizes(),
        "thing": lambda: nested_values(),
    }[kind]()
    return [(value, None) for value in found]


def all_functions():
    """All functions of the interface, each with the names of its parameters and what they take."""
    found = []
    for file, functions in PARAMETERS.items():
        module = importlib.import_module("ringleast." + file)
        for name, names in functions.items():
            found.append((getattr(module, name), names, [KINDS.get((name, each), each) for each in names]))
    return found


class Parameters(unittest.TestCase):
    @classmethod
    def setUpClass(cls):
        kinds = list(ERRORS) + ["thing"]
        cls.wrong = {(rank, kind): wrong_values(rank, kind) for rank in RANKS for kind in kinds}

    def check(self, function, names, values, error, field):
        calls = [(values, {}), ((), dict(zip(names[::-1], values[::-1])))]
        for arguments, keywords in calls:
            with self.assertRaises(ValueError) as caught:
                function(*arguments, **keywords)
            self.assertIs(type(caught.exception), error, (function.__name__, values))
            if error in FIELDS:
                made = getattr(caught.exception, FIELDS[error])
                self.assertIs(type(made), type(field))
                self.assertEqual(made, field, (function.__name__, values))

    def cases(self):
        """(function, names, kinds, rank, position) for each parameter that can be invalid."""
        for function, names, kinds in all_functions():
            for rank in RANKS if "rank" in names else (2,):
                for at, kind in enumerate(kinds):
                    if kind != "thing" and (kind != "rank" or rank == 2):
                        yield function, names, kinds, rank, at

    def test_one_wrong_value(self):
        for function, names, kinds, rank, at in self.cases():
            for value, field in self.wrong[rank, kinds[at]]:
                for k in (0, 1):
                    values = [good_values(rank, kind)[k] for kind in kinds]
                    values[at] = value
                    self.check(function, names, tuple(values), ERRORS[kinds[at]], field)

    def test_several_wrong_values(self):
        for function, names, kinds, rank, at in self.cases():
            later = range(at + 1, len(kinds))
            for k, (value, field) in enumerate(self.wrong[rank, kinds[at]]):
                for chosen in [later, later[:1], later[-1:]]:
                    values = [good_values(rank, kind)[k % 2] for kind in kinds]
                    values[at] = value
                    for other in chosen:
                        wrong = self.wrong[rank, kinds[other]]
                        values[other] = wrong[(7 * k + other) % len(wrong)][0]
                    self.check(function, names, tuple(values), ERRORS[kinds[at]], field)

    def test_all_wrong_values_behind_a_wrong_value(self):
        for function, names, kinds, rank, at in self.cases():
            first = self.wrong[rank, kinds[at]]
            for other in range(at + 1, len(kinds)):
                for k, (wrong, _) in enumerate(self.wrong[rank, kinds[other]]):
                    values = [good_values(rank, kind)[k % 2] for kind in kinds]
                    value, field = first[(5 * k) % len(first)]
                    values[at], values[other] = value, wrong
                    self.check(function, names, tuple(values), ERRORS[kinds[at]], field)

    def test_values_of_a_higher_rank(self):
        higher = {
            "word": "c", "letters": "c", "row": ("c",), "substitution": ("a", "b", "c"), "step": ("move", "a", "ac"),
            "route": [("relabel", "cab")], "letter": "c", "side": "ac", "tables": (((1, 0), (0, 1)),) * 3,
        }
        for function, names, kinds in all_functions():
            for at, kind in enumerate(kinds):
                if kind in higher:
                    values = [good_values(2, other)[1] for other in kinds[:at]]
                    values += [higher.get(other, good_values(2, other)[1]) for other in kinds[at:]]
                    self.check(function, names, tuple(values), ERRORS[kind], 0 if kind == "route" else None)


class Things(unittest.TestCase):
    def test_is_step_raises_bad_rank_only(self):
        for rank in RANKS:
            for thing in bad_steps(rank) + bad_rows(rank) + bad_substitutions(rank):
                self.assertIs(is_step(rank, thing), False)

    def test_check_certificate_raises_bad_rank_and_bad_row_only(self):
        for rank in RANKS:
            for thing in bad_steps(rank) + bad_substitutions(rank)[::3]:
                self.assertIs(check_certificate(rank, ("abAB",), thing), False)
                self.assertIs(check_certificate(rank, ("ab",), thing=thing), False)
                self.assertRaises(BadRow, check_certificate, rank, ["ab"], thing)
                self.assertRaises(BadRank, check_certificate, rank + 3, ["ab"], thing)

    def test_false_for_values_of_all_kinds(self):
        before = {"row": ("abAB",), "word": "ab"}
        for function, names, kinds in all_functions():
            # The values below are valid words, rings and rows in part.
            if names[-1:] != ["thing"] or function in (is_word, is_ring, is_row):
                continue
            for rank in RANKS:
                given = {name: before[kind] for name, kind in zip(names[1:-1], kinds[1:-1])}
                things = bad_steps(rank)[::2] + bad_substitutions(rank)[::5] + bad_rows(rank)[::2]
                for thing in things + bad_tables(rank)[::2]:
                    if thing != (("a",),):
                        self.assertIs(function(rank, *given.values(), thing), False)
                        self.assertIs(function(thing=thing, rank=rank, **given), False)


class LimitsComeLast(unittest.TestCase):
    def test_too_long(self):
        step = ("move", "A", "AB")
        self.assertRaises(TooLong, image, 2, ("a" * 100, "b"), "aa")
        self.assertRaises(BadWord, image, 2, ("a" * 100, "b"), "aA")
        self.assertRaises(TooLong, compose, 2, ("a" * 100, "b"), ("aa", "b"))
        self.assertRaises(BadSubstitution, compose, 2, ("a" * 100, "b"), ("aa",))
        self.assertRaises(BadRow, apply, 2, ("a" * 61, "b"), ("ba",))
        self.assertRaises(BadRow, apply, 2, ("a", "a" * 61 + "b"), ("ba",))
        self.assertRaises(TooLong, apply, 2, ("a", "a" * 61 + "b"), ("b",))
        self.assertRaises(TooLong, step_row, 2, ("b" * 60,), step)
        self.assertRaises(BadStep, step_row, 2, ("b" * 60,), list(step))
        self.assertRaises(TooLong, walk, 2, ("b" * 60,), [step])
        self.assertRaises(BadStep, walk, 2, ("b" * 60,), [step, list(step)])
        self.assertRaises(TooLong, total, 2, [step] * 101)
        self.assertRaises(BadStep, total, 2, [step] * 101 + [list(step)])

    def test_too_large_and_not_minimal(self):
        long, short = ("a" * 60,), ("a",)
        self.assertRaises(TooLarge, level, 3, long)
        self.assertRaises(BadRow, level, 3, list(long))
        self.assertRaises(TooLarge, level, 4, ("ab",))
        self.assertRaises(BadRow, level, 4, ("ba",))
        self.assertRaises(NotMinimal, level, 3, ("ab",))
        self.assertRaises(TooLarge, equivalent, 4, short, short)
        self.assertRaises(BadRow, equivalent, 4, short, "a")
        self.assertRaises(BadRow, equivalent, 4, "a", short)
        self.assertRaises(TooLarge, equivalent, 3, long, long)
        self.assertRaises(BadRow, equivalent, 3, long, ("a" * 61,))
        self.assertRaises(TooLong, primitive, 3, "a" * 61)
        self.assertRaises(BadWord, primitive, 3, "a" * 61 + "A")

    def test_sizes(self):
        for function in (least_rings, orbits):
            self.assertRaises(TooLarge, function, 4, 1)
            self.assertRaises(BadSize, function, 4, 0)
            self.assertRaises(TooLarge, function, 2, 7)
            self.assertRaises(BadRank, function, 5, 7)


if __name__ == "__main__":
    unittest.main()
