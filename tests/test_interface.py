"""The interface: names, parameters, files, and the examples as the document writes them."""

import copy
import importlib
import inspect
import unittest

from ringleast import errors
from ringleast.words import inverse, is_word, letters, product, reduce_text
from ringleast.rings import is_ring, is_row, ring_of

PARAMETERS = {
    "words": {
        "letters": ["rank"],
        "is_word": ["rank", "thing"],
        "inverse": ["rank", "word"],
        "reduce_text": ["rank", "text"],
        "product": ["rank", "one", "other"],
    },
    "rings": {
        "is_ring": ["rank", "thing"],
        "is_row": ["rank", "thing"],
        "ring_of": ["rank", "word"],
    },
}

EXAMPLES = [
    ("words", 'letters(2)', "'aAbB'"),
    ("words", 'is_word(2, "abBa")', "False"),
    ("words", 'inverse(2, "abA")', "'aBA'"),
    ("words", 'reduce_text(2, "abBAb")', "'b'"),
    ("words", 'reduce_text(2, "ac")', "raises BadWord"),
    ("words", 'product(2, "ab", "Ba")', "'aa'"),
    ("rings", 'is_ring(2, "ba")', "False"),
    ("rings", 'is_row(2, ("ab", "a"))', "True"),
    ("rings", 'ring_of(2, "bbaB")', "'ab'"),
    ("rings", 'ring_of(2, "bA")', "'Ab'"),
]

CALLS = [
    (letters, {"rank": 3}, "aAbBcC"),
    (is_word, {"rank": 2, "thing": "ab"}, True),
    (inverse, {"rank": 2, "word": "abA"}, "aBA"),
    (reduce_text, {"rank": 2, "text": "abBAb"}, "b"),
    (product, {"rank": 2, "one": "ab", "other": "Ba"}, "aa"),
    (is_ring, {"rank": 2, "thing": "ab"}, True),
    (is_row, {"rank": 2, "thing": ("ab", "a")}, True),
    (ring_of, {"rank": 2, "word": "bbaB"}, "ab"),
]


class Interface(unittest.TestCase):
    def test_names_files_and_parameters(self):
        for name, functions in PARAMETERS.items():
            module = importlib.import_module("ringleast." + name)
            for function, parameters in functions.items():
                made = getattr(module, function)
                self.assertEqual(made.__module__, "ringleast." + name)
                self.assertEqual(list(inspect.signature(made).parameters), parameters)

    def test_examples(self):
        for name, call, outcome in EXAMPLES:
            names = {}
            exec(f"from ringleast.{name} import {call[:call.index('(')]}", names)
            if outcome.startswith("raises "):
                with self.assertRaises(getattr(errors, outcome[len("raises "):])):
                    eval(call, names)
            else:
                self.assertEqual(repr(eval(call, names)), outcome, call)

    def test_by_position_and_by_name(self):
        for function, arguments, outcome in CALLS:
            self.assertEqual(function(*arguments.values()), outcome)
            self.assertEqual(function(**arguments), outcome)
            backwards = {name: arguments[name] for name in reversed(list(arguments))}
            self.assertEqual(function(**backwards), outcome)

    def test_the_same_call_gives_the_same_result(self):
        for _ in range(3):
            for function, arguments, outcome in CALLS:
                again = function(**arguments)
                self.assertEqual(again, outcome)
                self.assertIs(type(again), type(outcome))

    def test_arguments_are_not_modified(self):
        for thing in (["ab", "a"], {"ab": ["a"]}, (["ab"],), [["a"], {"b": "c"}]):
            before = copy.deepcopy(thing)
            for function in (is_word, is_ring, is_row):
                self.assertIs(function(2, thing), False)
                self.assertEqual(thing, before)


if __name__ == "__main__":
    unittest.main()
