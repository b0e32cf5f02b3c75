"""Values that are not valid: of other kinds, and close to valid ones."""

from plain import BASE, RANKS, plain_identity
from reference import bad_words, not_strings, texts_beyond


def nested_values():
    """Values of other kinds for things, rows, substitutions and steps."""
    return not_strings() + ["", "a", "ab", "abAB", ["ab"], ["ab", "b"], [("ab",)], {"ab": "a"}, ((), ()), ([], [])]


def bad_rows(rank):
    found = [
        (), ("",), ("aA",), ("ba",), ("a", "ba"), ("a",) * 5, ("a" * 61,), ("a" * 30, "b" * 31), ["ab"], "ab", ["a"],
    ]
    found += [value for value in not_strings() if value != ("a",)]
    for word in bad_words(rank):
        found += [(word,), ("a", word), (word, "a")]
    return found


def bad_substitutions(rank):
    good = plain_identity(rank)
    found = [good[:-1], good + ("a",), good + ("",), list(good), "".join(good), ("a",) * (rank - 1), ()]
    found += [good[:k] + (word,) + good[k + 1:] for word in bad_words(rank) for k in (0, rank - 1)]
    return found + nested_values()


def bad_letters(rank):
    found = ["", "aA", "aa", "ab", "abAB", ("a",), ["a"], {"a"}, b"a"]
    return found + texts_beyond(rank) + [value for value in not_strings() if not isinstance(value, str)]


def bad_sides(rank):
    found = ["Aa", "ba", "aa", "abb", "aba", "Bb", "bA", "aBb", "aab", ["a"], ("a",), ["a", "b"], {"a": 1}, {"a"}, b"a"]
    return found + texts_beyond(rank) + [value for value in not_strings() if not isinstance(value, str)]


def bad_moves(rank):
    found = [
        ["move", "a", "ab"], ("move", "a"), ("move", "a", "ab", "b"), ("move",), ("move", ("a", "ab")), "move a ab",
        ("Move", "a", "ab"), ("moves", "a", "ab"), ("", "a", "ab"), (None, "a", "ab"), ("relabel", "a", "ab"),
        (b"move", "a", "ab"), (["move"], "a", "ab"), (("move",), "a", "ab"), (0, "a", "ab"), (True, "a", "ab"),
        ("move", "a", "ba"), ("move", "b", "bA"), ("move", "a", "aBb"), ("move", "a", "aab"), ("move", "a", "abb"),
        ("move", "a", "b"), ("move", "a", ""), ("move", "a", "AbB"), ("move", "a", "aA"), ("move", "a", "aAb"),
        ("move", "A", "aA"), ("move", "b", "abB"), ("move", "", "ab"), ("move", "ab", "ab"), ("move", "aA", "aA"),
        ("move", "a", ("a", "b")), ("move", "a", ["a", "b"]), ("move", ["a"], "ab"), ("move", ("a",), "ab"),
        ("move", "ab", "a"), ("a", "move", "ab"), ("move", "a", "a b"), ("move", "a ", "ab"), ("move", "a", "ab "),
    ]
    for value in not_strings():
        found += [("move", value, "ab"), ("move", "a", value), (value, "a", "ab")]
    for text in texts_beyond(rank):
        found += [("move", text, "a"), ("move", "a", "a" + text)]
    return found


def bad_relabelings(rank):
    good = BASE[rank]
    found = [
        ["relabel", good], ("relabel",), ("relabel", good, good), ("relabel", good[:-1]), ("relabel", good + "a"),
        ("relabel", ""), ("relabel", tuple(good)), ("relabel", list(good)), ("Relabel", good), ("move", good),
        ("relabels", good), (None, good), (b"relabel", good), ("relabel", good.encode()), (("relabel",), good),
        ("relabel", "aa" + good[2:]), ("relabel", "aA" + good[2:]), ("relabel", good[:-2] + "bB"),
        ("relabel", good + " "), ("relabel", " " + good), "relabel " + good, ("relabel", "abcde"), (good, "relabel"),
    ]
    for value in not_strings():
        found += [("relabel", value), (value, good)]
    found += [("relabel", text) for text in texts_beyond(rank)]
    return found + [("relabel", BASE[other]) for other in RANKS if other != rank]


def bad_steps(rank):
    return bad_moves(rank) + bad_relabelings(rank) + nested_values() + [(), ("move", "relabel"), ((), (), ())]


def not_routes():
    """Values that are neither tuples nor lists."""
    return [value for value in not_strings() if not isinstance(value, (tuple, list))] + ["", "move a ab", "ab", b"ab"]


def bad_tables(rank):
    one = ((1, 0), (0, 1))
    good = (one,) * rank
    tables = [
        ((1, 0), (0, -1)), ((0, 1), (1, 0)), ((2, 0), (0, 1)), ((1, 2), (3, 4)), ((0, 0), (0, 0)), ((-1, 0), (0, 1)),
        ((10 ** 40, 1), (1, 1)), ((2, 1), (3, 1)),
        ((True, 0), (0, 1)), ((1, False), (0, 1)), ((1, 0), (False, 1)), ((1, 0), (0, True)),
        ((True, False), (False, True)), ((1.0, 0), (0, 1)), ((1, 0), (0, 1.0)), ((1, None), (0, 1)),
        (("1", 0), (0, 1)), ((1, 0), (0, "1")), ((1, ()), ((), 1)), [[1, 0], [0, 1]], [(1, 0), (0, 1)],
        ([1, 0], [0, 1]), ((1, 0), [0, 1]), ([1, 0], (0, 1)), (1, 0, 0, 1), ((1, 0, 0, 1),), ((1, 0),),
        ((1, 0), (0, 1), ()), ((1, 0, 0), (0, 1, 0)), ((1,), (0, 1)), ((1, 0), (0,)), ((1, 0), (0, 1), (0, 0)),
        ((1, 0), 0, 1), ((1, 0), "01"), ("10", "01"), {(1, 0): (0, 1)}, (one, one), (one,), 1, None, "", "aA", (),
        ((), ()),
    ]
    found = [good[:-1], good + (one,), list(good), one, (), {one: one}, dict(enumerate(good)), (good,), good[0][0]]
    for table in tables:
        found += [good[:k] + (table,) + good[k + 1:] for k in (0, rank - 1)]
    return found + nested_values()


def bad_pairs():
    found = [
        (0, 0), (2, 0), (0, 2), (-2, 0), (0, -3), (2, 2), (2, -2), (4, 6), (-4, 6), (15, 45), (30, -30), (6, 33),
        (60, 0), (60, 1), (1, 60), (-60, 1), (1, -60), (-1, -60), (31, 30), (30, -31), (61, 0), (0, -61),
        (10 ** 40, 1), (1, 10 ** 900), (True, 0), (0, True), (True, 1), (1, False), (False, True), (1.0, 0), (1, 0.0),
        (1, None), (None, 1), ("1", 0), (1, "0"), ((1,), 0), (1, ()), [1, 0], [2, 1], (1,), (1, 0, 0), (2, 1, 1),
        ((2, 1),), {2: 1}, {2, 1}, "21", "ab", b"ab", 21, 1,
    ]
    return found + nested_values()


def bad_sizes():
    found = [0, -1, -6, -10 ** 40, True, False, None, 1.0, 2.5, "1", "", "a", b"1", [], [1], (1,), (), {1}, {1: 1}, int]
    return found + [value for value in nested_values() if type(value) is not int]
