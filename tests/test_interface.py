"""The interface: names, parameters, files, and the examples as the document writes them."""

import copy
import importlib
import inspect
import unittest
from itertools import permutations

from interface import PARAMETERS
from ringleast import errors
from ringleast.census import least_rings, orbits
from ringleast.flows import certificate, check_certificate, least_cut, paths
from ringleast.graphs import change, components, cut, degree, edges
from ringleast.levels import canonical, is_closed, level, neighbours
from ringleast.minimal import is_minimal, least_length, reduce_row, shorten
from ringleast.rank_two import pair_ring, sign
from ringleast.rings import is_ring, is_row, ring_of
from ringleast.separation import check_primitive, check_separation, primitive, separate
from ringleast.shadows import carried, determinant, exponents, matrix, trace, value
from ringleast.steps import factor, is_step, moves, step_row, substitution_of, total, undo_step, walk
from ringleast.substitutions import apply, compose, image, is_automorphism, undo
from ringleast.texts import route_in, route_text, row_in, row_text, substitution_in, substitution_text
from ringleast.verdicts import check_verdict, equivalent
from ringleast.words import inverse, is_word, letters, product, reduce_text

EXAMPLES = [
    ("words", 'letters(2)', "'aAbB'"),
    ("words", 'is_word(2, "abBa")', "False"),
    ("words", 'inverse(2, "abA")', "'aBA'"),
    ("words", 'reduce_text(2, "abBAb")', "'b'"),
    ("words", 'reduce_text(2, "ac")', "raises BadWord"),
    ("words", 'product(2, "ab", "Ba")', "'aa'"),
    ("rings", 'is_ring(2, "ba")', "False"),
    ("rings", 'is_row(2, ("ab", "a"))', "True"),
    ("rings", 'ring_of(2, "bbaB")', "'ab'"),
    ("rings", 'ring_of(2, "bA")', "'Ab'"),
    ("substitutions", 'image(2, ("ab", "b"), "aB")', "'a'"),
    ("substitutions", 'compose(2, ("ab", "b"), ("a", "ba"))', "('ab', 'bab')"),
    ("substitutions", 'is_automorphism(2, ("aa", "b"))', "False"),
    ("substitutions", 'undo(2, ("ab", "b"))', "('aB', 'b')"),
    ("substitutions", 'undo(2, ("aa", "b"))', "raises NotInvertible"),
    ("substitutions", 'apply(2, ("ab", "b"), ("aB",))', "('a',)"),
    ("steps", 'is_step(2, ("move", "a", "aA"))', "False"),
    (
        "steps", 'moves(2)[:4]',
        "[('move', 'a', 'a'), ('move', 'a', 'ab'), ('move', 'a', 'abB'), ('move', 'a', 'aB')]",
    ),
    ("steps", 'undo_step(2, ("move", "a", "ab"))', "('move', 'A', 'Ab')"),
    ("steps", 'substitution_of(2, ("move", "a", "ab"))', "('a', 'ba')"),
    ("steps", 'total(2, (("move", "a", "ab"), ("relabel", "bA")))', "('b', 'Ab')"),
    ("steps", 'step_row(2, ("ab",), ("move", "A", "Ab"))', "('b',)"),
    ("steps", 'walk(2, ("aab",), [("move", "A", "Ab"), ("move", "A", "Ab")])', "('b',)"),
    ("steps", 'total(2, factor(2, ("ab", "b")))', "('ab', 'b')"),
    ("graphs", 'edges(2, ("ab",))', "(((0, 0), 'a', 'B'), ((0, 1), 'b', 'A'))"),
    ("graphs", 'degree(2, ("aab",), "A")', "2"),
    ("graphs", 'cut(2, ("ab",), "ab")', "2"),
    ("graphs", 'change(2, ("ab",), ("move", "A", "Ab"))', "-1"),
    ("graphs", 'components(2, ("ab",))', "('aB', 'Ab')"),
    ("flows", 'least_cut(2, ("ab",), "a")', "(0, 'aB')"),
    ("flows", 'len(paths(2, ("abAB",), "a"))', "2"),
    ("flows", 'certificate(2, ("ab",))', "raises NotMinimal"),
    ("flows", 'check_certificate(2, ("aa",), ((((0, 0),), ((0, 1),)), ()))', "True"),
    ("flows", 'check_certificate(2, ("aa",), ((((0, 0),), ((0, 0),)), ()))', "False"),
    ("minimal", 'is_minimal(2, ("abAB",))', "True"),
    ("minimal", 'shorten(2, ("abAB",))', "None"),
    ("minimal", 'reduce_row(2, ("abAB",))', "((), ('abAB',))"),
    ("minimal", 'least_length(2, ("aab",))', "1"),
    ("levels", 'canonical(2, ("b",))[1]', "('a',)"),
    ("levels", 'neighbours(2, ("aa",))', "(('aa',),)"),
    ("levels", 'level(2, ("abAB",))', "(('abAB',),)"),
    ("levels", 'level(4, ("a",))', "raises TooLarge(3)"),
    ("levels", 'is_closed(2, (("a",),))', "True"),
    ("verdicts", 'equivalent(2, ("a",), ("a", "b"))', "('different', 'count')"),
    ("verdicts", 'check_verdict(2, ("ab",), ("b",), ("equivalent", (("move", "A", "Ab"),)))', "True"),
    ("separation", 'separate(2, ("abAB",))[0]', "'connected'"),
    ("separation", 'check_separation(2, ("a",), ("separable", (), ("a", "b")))', "True"),
    ("separation", 'check_separation(2, ("ab",), ("separable", (), ("a", "b")))', "False"),
    ("separation", 'primitive(2, "aabab")[0]', "'primitive'"),
    ("separation", 'check_primitive(2, "ab", ("primitive", (("move", "A", "Ab"),)))', "True"),
    ("shadows", 'exponents(2, "abAb")', "(0, 2)"),
    ("shadows", 'matrix(2, ("ab", "b"))', "((1, 1), (0, 1))"),
    ("shadows", 'determinant(2, ("aab", "b"))', "2"),
    ("shadows", 'value(2, (((1, 1), (0, 1)), ((1, 0), (1, 1))), "ab")', "((2, 1), (1, 1))"),
    ("shadows", 'trace(2, (((1, 1), (0, 1)), ((1, 0), (1, 1))), "ab")', "3"),
    (
        "shadows", 'carried(2, (((1, 1), (0, 1)), ((1, 0), (1, 1))), ("ab", "b"))',
        "(((2, 1), (1, 1)), ((1, 0), (1, 1)))",
    ),
    ("rank_two", 'pair_ring((2, 1))', "'aab'"),
    ("rank_two", 'sign(("ab", "b"))', "1"),
    ("census", 'least_rings(2, 2)', "('aa',)"),
    ("census", 'orbits(2, 2)', "((('aa',),),)"),
    ("texts", 'row_text(2, ("ab", "a"))', "'ab a'"),
    ("texts", 'substitution_text(2, ("ab", ""))', r"'a = ab\nb = 1'"),
    ("texts", 'route_text(2, (("move", "a", "ab"), ("relabel", "ba")))', r"'move a ab\nrelabel ba'"),
    ("texts", 'row_in(2, "ab a")', "('ab', 'a')"),
    ("texts", 'substitution_in(2, "a = ab")', "raises BadText(2)"),
    ("texts", 'route_in(2, "")', "()"),
]

CALLS = [
    (letters, {"rank": 3}, "aAbBcC"),
    (is_word, {"rank": 2, "thing": "ab"}, True),
    (inverse, {"rank": 2, "word": "abA"}, "aBA"),
    (reduce_text, {"rank": 2, "text": "abBAb"}, "b"),
    (product, {"rank": 2, "one": "ab", "other": "Ba"}, "aa"),
    (is_ring, {"rank": 2, "thing": "ab"}, True),
    (is_row, {"rank": 2, "thing": ("ab", "a")}, True),
    (ring_of, {"rank": 2, "word": "bbaB"}, "ab"),
    (image, {"rank": 2, "substitution": ("ab", "b"), "word": "aB"}, "a"),
    (compose, {"rank": 2, "outer": ("ab", "b"), "inner": ("a", "ba")}, ("ab", "bab")),
    (is_automorphism, {"rank": 2, "substitution": ("ab", "b")}, True),
    (undo, {"rank": 2, "substitution": ("ab", "b")}, ("aB", "b")),
    (apply, {"rank": 2, "substitution": ("ab", "b"), "row": ("aB",)}, ("a",)),
    (is_step, {"rank": 2, "thing": ("relabel", "bA")}, True),
    (moves, {"rank": 3}, moves(3)),
    (undo_step, {"rank": 2, "step": ("relabel", "bA")}, ("relabel", "Ba")),
    (substitution_of, {"rank": 2, "step": ("move", "a", "abB")}, ("a", "Aba")),
    (total, {"rank": 2, "route": [("move", "a", "ab"), ("relabel", "bA")]}, ("b", "Ab")),
    (step_row, {"rank": 2, "row": ("ab",), "step": ("move", "A", "Ab")}, ("b",)),
    (walk, {"rank": 2, "row": ("aab",), "route": (("move", "A", "Ab"), ("move", "A", "Ab"))}, ("b",)),
    (factor, {"rank": 2, "substitution": ("ab", "bab")}, factor(2, ("ab", "bab"))),
    (edges, {"rank": 2, "row": ("ab",)}, (((0, 0), "a", "B"), ((0, 1), "b", "A"))),
    (degree, {"rank": 2, "row": ("aab",), "letter": "A"}, 2),
    (cut, {"rank": 2, "row": ("ab",), "side": "ab"}, 2),
    (change, {"rank": 2, "row": ("ab",), "step": ("move", "A", "Ab")}, -1),
    (components, {"rank": 2, "row": ("ab",)}, ("aB", "Ab")),
    (least_cut, {"rank": 2, "row": ("ab",), "letter": "a"}, (0, "aB")),
    (paths, {"rank": 2, "row": ("abAB",), "letter": "a"}, paths(2, ("abAB",), "a")),
    (certificate, {"rank": 2, "row": ("abAB",)}, certificate(2, ("abAB",))),
    (check_certificate, {"rank": 2, "row": ("aa",), "thing": ((((0, 0),), ((0, 1),)), ())}, True),
    (is_minimal, {"rank": 2, "row": ("ab",)}, False),
    (shorten, {"rank": 2, "row": ("ab",)}, shorten(2, ("ab",))),
    (reduce_row, {"rank": 2, "row": ("aabab",)}, reduce_row(2, ("aabab",))),
    (least_length, {"rank": 2, "row": ("aab",)}, 1),
    (canonical, {"rank": 2, "row": ("b",)}, canonical(2, ("b",))),
    (neighbours, {"rank": 2, "row": ("aabb",)}, (("aabb",), ("abaB",))),
    (level, {"rank": 2, "row": ("abaB",)}, (("aabb",), ("abaB",))),
    (is_closed, {"rank": 2, "thing": (("aabb",), ("abaB",))}, True),
    (equivalent, {"rank": 2, "one": ("aabb",), "other": ("abaB",)}, equivalent(2, ("aabb",), ("abaB",))),
    (check_verdict, {"rank": 2, "one": ("a",), "other": ("a", "b"), "thing": ("different", "count")}, True),
    (separate, {"rank": 2, "row": ("aabab",)}, separate(2, ("aabab",))),
    (check_separation, {"rank": 2, "row": ("a",), "thing": ("separable", (), ("a", "b"))}, True),
    (primitive, {"rank": 2, "word": "aabab"}, primitive(2, "aabab")),
    (check_primitive, {"rank": 2, "word": "bA", "thing": ("primitive", (("move", "a", "ab"),))}, True),
    (exponents, {"rank": 3, "word": "abAbC"}, (0, 2, -1)),
    (matrix, {"rank": 2, "substitution": ("aB", "b")}, ((1, -1), (0, 1))),
    (determinant, {"rank": 2, "substitution": ("aab", "B")}, -2),
    (value, {"rank": 2, "tables": (((1, 1), (0, 1)), ((1, 0), (1, 1))), "word": "ba"}, ((1, 1), (1, 2))),
    (trace, {"rank": 2, "tables": (((1, 1), (0, 1)), ((1, 0), (1, 1))), "word": "bA"}, 1),
    (
        carried, {"rank": 2, "tables": (((1, 1), (0, 1)), ((1, 0), (1, 1))), "substitution": ("B", "")},
        (((1, 0), (-1, 1)), ((1, 0), (0, 1))),
    ),
    (pair_ring, {"pair": (-2, 1)}, "AAb"),
    (sign, {"substitution": ("b", "a")}, -1),
    (least_rings, {"rank": 2, "size": 4}, ("aaaa", "aabb", "abaB", "abAB")),
    (orbits, {"rank": 3, "size": 4}, ((("aaaa",),), (("aabb",), ("abaB",)), (("abAB",),))),
    (row_text, {"rank": 2, "row": ("ab", "a", "B")}, "ab a B"),
    (substitution_text, {"rank": 3, "substitution": ("", "cb", "c")}, "a = 1\nb = cb\nc = c"),
    (route_text, {"rank": 2, "route": [("relabel", "bA"), ("move", "B", "AB")]}, "relabel bA\nmove B AB"),
    (row_in, {"rank": 2, "text": "ab a B"}, ("ab", "a", "B")),
    (substitution_in, {"rank": 3, "text": "a = 1\nb = cb\nc = c"}, ("", "cb", "c")),
    (route_in, {"rank": 2, "text": "relabel bA\nmove B AB"}, (("relabel", "bA"), ("move", "B", "AB"))),
]
# Functions with a parameter `thing`, and what stands before it.
THINGS = [
    (is_word, ()), (is_ring, ()), (is_row, ()), (is_step, ()), (check_certificate, (("a",),)), (is_closed, ()),
    (check_verdict, (("a",), ("b",))), (check_separation, (("a",),)), (check_primitive, ("a",)),
]


class Interface(unittest.TestCase):
    def test_names_files_and_parameters(self):
        for name, functions in PARAMETERS.items():
            module = importlib.import_module("ringleast." + name)
            for function, parameters in functions.items():
                made = getattr(module, function)
                self.assertEqual(made.__module__, "ringleast." + name)
                self.assertEqual(list(inspect.signature(made).parameters), parameters)

    def test_examples(self):
        for name, call, outcome in EXAMPLES:
            module = importlib.import_module("ringleast." + name)
            names = {function: getattr(module, function) for function in PARAMETERS[name]}
            if outcome.startswith("raises "):
                error, _, field = outcome[len("raises "):].rstrip(")").partition("(")
                with self.assertRaises(getattr(errors, error)) as caught:
                    eval(call, names)
                if field:
                    self.assertEqual([repr(value) for value in vars(caught.exception).values()], [field])
            else:
                self.assertEqual(repr(eval(call, names)), outcome, call)

    def test_by_position_and_by_name(self):
        for function, arguments, outcome in CALLS:
            self.assertEqual(function(*arguments.values()), outcome)
            for names in permutations(arguments):
                self.assertEqual(function(**{name: arguments[name] for name in names}), outcome)
            self.assertEqual(list(arguments), list(inspect.signature(function).parameters))

    def test_the_same_call_gives_the_same_result(self):
        for _ in range(3):
            for function, arguments, outcome in CALLS:
                again = function(**arguments)
                self.assertEqual(again, outcome)
                self.assertIs(type(again), type(outcome))

    def test_arguments_of_calls_are_not_modified(self):
        for function, arguments, outcome in CALLS:
            before = copy.deepcopy(arguments)
            made = function(**arguments)
            self.assertEqual(arguments, before)
            if isinstance(made, list):
                made.clear()
                self.assertEqual(function(**arguments), outcome)
        route = [("move", "a", "ab"), ["move"]]
        for function in (total, route_text):
            self.assertRaises(errors.BadStep, function, 2, route)
            self.assertEqual(route, [("move", "a", "ab"), ["move"]])

    def test_things_are_not_modified(self):
        things = [["ab", "a"], {"ab": ["a"]}, (["ab"],), [["a"], {"b": "c"}], ["move", "a", ["a"]], ([[[0, 0]]], [])]
        things += [["equivalent", []], ("equivalent", [["relabel", "ba"]]), ("different", "level", [], [], [["a"]])]
        things += [("separable", [], ["a", "b"]), ("connected", (), [[[(0, 0)]], []]), ("primitive", []), [["a"]]]
        things += [("different", "length", (), [[], []], (), [[], []]), ("composite", [], [[], []])]
        for thing in things:
            before = copy.deepcopy(thing)
            for function, first in THINGS:
                self.assertIs(function(2, *first, thing), False)
                self.assertEqual(thing, before)
                self.assertIs(function(rank=2, thing=thing, **dict(zip(self.names_before(function), first))), False)
                self.assertEqual(thing, before)

    def names_before(self, function):
        return list(inspect.signature(function).parameters)[1:-1]

    def test_all_functions_with_a_thing(self):
        found = [name for functions in PARAMETERS.values() for name, names in functions.items() if "thing" in names]
        self.assertEqual(sorted(found), sorted(function.__name__ for function, _ in THINGS))

    def test_all_functions_are_called_by_name(self):
        called = {function.__name__ for function, _, _ in CALLS}
        self.assertEqual(called, {function for functions in PARAMETERS.values() for function in functions})
        shown = " ".join(call for _, call, _ in EXAMPLES)
        for function in called:
            self.assertIn(function + "(", shown)


if __name__ == "__main__":
    unittest.main()
