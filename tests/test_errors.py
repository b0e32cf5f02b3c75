"""Point 30: the three bases and the fourteen errors."""

import copy
import inspect
import unittest

from ringleast import errors

BASES = {"RingError": ValueError, "LimitError": ArithmeticError, "MissingError": LookupError}
MEMBERS = {
    "RingError": [
        "BadRank", "BadLetter", "BadWord", "BadRow", "BadSubstitution",
        "BadStep", "BadTables", "BadPair", "BadSize", "BadText",
    ],
    "LimitError": ["TooLong", "TooLarge"],
    "MissingError": ["NotInvertible", "NotMinimal"],
}
FIELDS = {"BadStep": "index", "BadText": "line", "TooLong": "limit", "TooLarge": "limit", "NotMinimal": "move"}
VALUES = [
    None, True, False, 0, 1, -7, 10 ** 30, 1.5, "", "text", b"ab", [], [1, [2]], (), ("move", "a", "ab"),
    {}, {"a": [1]}, {1}, object(), ValueError("inner"), int,
]


def named(name):
    return getattr(errors, name)


def all_names():
    return [name for base in MEMBERS for name in MEMBERS[base]]


class Families(unittest.TestCase):
    def test_there_are_fourteen(self):
        self.assertEqual(len(set(all_names())), 14)

    def test_the_module_defines_these_classes_only(self):
        found = {name for name, _ in inspect.getmembers(errors, inspect.isclass)}
        self.assertEqual(found, set(BASES) | set(all_names()))

    def test_bases(self):
        for name, builtin in BASES.items():
            self.assertEqual(named(name).__bases__, (builtin,), name)

    def test_each_error_is_a_direct_subclass_of_its_base(self):
        for base, names in MEMBERS.items():
            for name in names:
                self.assertEqual(named(name).__bases__, (named(base),), name)
                self.assertTrue(issubclass(named(name), BASES[base]), name)

    def test_no_error_is_a_subclass_of_another_besides_its_base(self):
        everything = all_names() + list(BASES)
        for base, names in MEMBERS.items():
            for name in names:
                above = {other for other in everything if issubclass(named(name), named(other))}
                self.assertEqual(above, {name, base})
        for base in BASES:
            self.assertEqual([other for other in everything if issubclass(named(base), named(other))], [base])

    def test_all_are_defined_in_this_file(self):
        for name in all_names() + list(BASES):
            self.assertEqual(named(name).__module__, "ringleast.errors")


class Fields(unittest.TestCase):
    def test_by_position_and_by_name(self):
        for name, field in FIELDS.items():
            for given in VALUES:
                self.assertIs(getattr(named(name)(given), field), given)
                self.assertIs(getattr(named(name)(**{field: given}), field), given)

    def test_the_field_is_the_only_parameter(self):
        for name, field in FIELDS.items():
            for arguments, keywords in [((), {}), ((1, 2), {}), ((), {"other": 1}), ((1,), {field: 1})]:
                with self.assertRaises(TypeError):
                    named(name)(*arguments, **keywords)

    def test_raised_and_caught(self):
        for base, names in MEMBERS.items():
            for name in names:
                given = [name]
                if name not in FIELDS:
                    given = name
                with self.assertRaises(named(base)) as caught:
                    raise named(name)(given)
                self.assertIs(type(caught.exception), named(name))
                if name in FIELDS:
                    self.assertIs(getattr(caught.exception, FIELDS[name]), given)

    def test_a_field_that_cannot_be_shown(self):
        class Mute:
            def __repr__(self):
                raise RuntimeError("not shown")

        for name in FIELDS:
            for given in (Mute(), 10 ** 5000):
                self.assertIsInstance(str(named(name)(given)), str)
                self.assertIsInstance(repr(named(name)(given)), str)

    def test_a_copy_keeps_the_field(self):
        for name, field in FIELDS.items():
            self.assertEqual(getattr(copy.copy(named(name)(**{field: (1, 2)})), field), (1, 2))


class Messages(unittest.TestCase):
    def test_one_message_string(self):
        for name in all_names():
            if name not in FIELDS:
                error = named(name)("what is wrong")
                self.assertEqual(error.args, ("what is wrong",))
                self.assertEqual(str(error), "what is wrong")


if __name__ == "__main__":
    unittest.main()
