"""Points 22 and 23: splits, separable rows, and primitive words."""

import unittest

from plain import BASE, RANKS, all_moves, is_minimal_row, plain_image, row_size, undone_route
from plain_levels import is_connected, plain_end, plain_least_row, plain_separates, plain_step, plain_way
from reference import all_words, plain_inverse, plain_is_word, plain_reduce, plain_ring, some_word
from ringleast.errors import BadRank, BadRow, BadWord, TooLong
from ringleast.flows import certificate, check_certificate
from ringleast.separation import check_primitive, check_separation, primitive, separate
from samples import MINIMAL, automorphisms, rows_of_all_kinds, some_way
from wrong import bad_steps, nested_values

SPLITS = {
    2: [("a", "b")],
    3: [("a", "bc"), ("ab", "c"), ("ac", "b")],
    4: [("a", "bcd"), ("ab", "cd"), ("ac", "bd"), ("ad", "bc"), ("abc", "d"), ("abd", "c"), ("acd", "b")],
}


def rows_over(split, many):
    """Rows with rings over one of the two sets each."""
    pairs = [part + part.upper() for part in split]
    found = []
    for seed in range(many):
        rings = []
        for k in range(1 + seed % 4):
            kept = [x for x in some_word(seed + 50 * k, 4, 60) if x in pairs[(seed >> k) % 2]]
            kept = plain_reduce("".join(kept))[:1 + (seed + k) % 6]
            rings.append(plain_ring(kept or split[0][0]))
        found.append(tuple(rings))
    return found


CONNECTED = {
    2: [("abAB",), ("aabb",), ("abAB", "a"), ("aabbAB",), ("aabbabAAB",), ("AAb", "b"), ("bb", "AAb"), ("aab", "aB")],
    3: [
        ("aabbcc",), ("aCbABCB",), ("AACBcB",), ("abAB", "acAC"), ("bc", "abac"), ("aBACbC", "BC"),
        ("abAB", "bcBC", "c"),
    ],
    4: [("abABcdCD",), ("aabbccdd",), ("abcdABCD",), ("abAB", "bcBC", "cdCD"), ("aabbccdd", "a"), ("aabbccdd" * 7,)],
}


class Separation(unittest.TestCase):
    def check(self, rank, row):
        made = separate(rank, row)
        self.assertIs(type(made), tuple)
        self.assertEqual(len(made), 3)
        self.assertIs(type(made[1]), tuple)
        way = plain_way(rank, row, made[1])
        self.assertEqual(max(row_size(each) for each in way), row_size(row))
        if made[0] == "separable":
            self.assertIn(made[2], SPLITS[rank])
            self.assertTrue(plain_separates(made[2], way[-1]))
        else:
            self.assertEqual(made[0], "connected")
            self.assertTrue(is_minimal_row(rank, way[-1]))
            self.assertTrue(is_connected(rank, way[-1]))
            self.assertIs(check_certificate(rank, way[-1], made[2]), True)
        self.assertIs(check_separation(rank, row, made), True)
        return made


class Separate(Separation):
    def test_rows_over_the_sets_of_a_split(self):
        for rank in RANKS:
            for split in SPLITS[rank]:
                for seed, row in enumerate(rows_over(split, 12 if rank < 4 else 8)):
                    self.assertTrue(plain_separates(split, row))
                    self.assertEqual(self.check(rank, row)[0], "separable", row)
                    longer = some_way(seed, rank, row, 60, 24)[1]
                    self.assertEqual(self.check(rank, longer)[0], "separable", longer)

    def test_minimal_rows_with_connected_graphs(self):
        for rank in RANKS:
            for row in CONNECTED[rank]:
                self.assertTrue(is_minimal_row(rank, row) and is_connected(rank, row), row)
                self.assertEqual(self.check(rank, row)[:2], ("connected", ()))
                for seed in range(4):
                    longer = some_way(seed, rank, row, 60, 24)[1]
                    self.assertEqual(self.check(rank, longer)[0], "connected", longer)

    def test_fact_4(self):
        for rank in RANKS:
            kinds = []
            for row in rows_of_all_kinds(rank, 40):
                kinds.append(self.check(rank, row)[0])
                self.assertEqual(kinds[-1] == "connected", is_connected(rank, plain_least_row(rank, row)), row)
            self.assertGreater(kinds.count("separable"), 8)
            self.assertGreater(kinds.count("connected"), 2)

    def test_letters_that_do_not_occur(self):
        self.assertEqual(separate(2, ("a",)), ("separable", (), ("a", "b")))
        self.assertEqual(separate(2, ("b",)), ("separable", (), ("a", "b")))
        self.assertEqual(separate(3, ("abAB",)), ("separable", (), ("ab", "c")))
        self.assertEqual(separate(3, ("bcBC",)), ("separable", (), ("a", "bc")))
        self.assertEqual(separate(4, ("bcBC", "d")), ("separable", (), ("a", "bcd")))
        self.assertEqual(separate(4, ("acAC", "bdBD")), ("separable", (), ("ac", "bd")))
        for row in CONNECTED[2]:
            self.assertEqual(separate(3, row)[0], "separable")
            self.assertEqual(separate(4, row)[0], "separable")


class CheckSeparation(Separation):
    def test_all_splits(self):
        for rank in RANKS:
            for split in SPLITS[rank]:
                for row in rows_over(split, 10):
                    for other in SPLITS[rank]:
                        expected = plain_separates(other, row)
                        self.assertIs(check_separation(rank, row, ("separable", (), other)), expected)

    def test_values_that_are_no_splits(self):
        for rank in RANKS:
            base = BASE[rank]
            things = [split[::-1] for split in SPLITS[rank]] + [list(split) for split in SPLITS[rank]]
            things += [(base, ""), ("", base), (base,), (base, base), ("a",), ("a", base), (base[0], base[2:]), ()]
            rest = base[1:]
            things += [("a", "B" + base[2:]), ("A", rest), ("aA", rest), ("a", rest, ""), ("a", base[:0:-1] + "b")]
            things += [("a", tuple(rest)), ("a", list(rest)), (("a",), rest), ("a", rest + "e"), "a" + base]
            things += [("a", rest.upper()), ("aa", rest), ("a", "b" + rest), ("a", " " + rest), base[:2]]
            things += [("b", "a" + base[2:]), {"a": rest}, {"a", rest}, None, base, ("a", "bb" + base[2:])]
            if rank > 2:
                things += [("a", rest[::-1]), (base[1::-1], base[2:]), ("a", "b"), ("a", base[2:] + "b"), ("ac", "bc")]
            if rank < 4:
                things += [("a", "bcd"), ("ab", "cd"), ("abc", "d")]
            for thing in things + nested_values():
                for row in [("a",), ("a", "b"), ("aa", "A")]:
                    self.assertIs(check_separation(rank, row, ("separable", (), thing)), False, thing)

    def test_letters_of_both_sets(self):
        for row in [("ab",), ("aB",), ("aBAb",), ("a", "b", "Ab"), ("ab", "a"), ("abAB",)]:
            self.assertIs(check_separation(2, row, ("separable", (), ("a", "b"))), False)
        for row in [("a",), ("B",), ("a", "B", "bb", "A"), ("a" * 60,)]:
            self.assertIs(check_separation(2, row, ("separable", (), ("a", "b"))), True)
        self.assertIs(check_separation(3, ("aC", "b"), ("separable", (), ("ac", "b"))), True)
        self.assertIs(check_separation(3, ("aC", "bc"), ("separable", (), ("ac", "b"))), False)

    def test_rows_on_the_way(self):
        for rank in RANKS:
            for row, kind, last in [
                (("a", "B"), "separable", ("a", BASE[rank][1:])), (CONNECTED[rank][1], "connected", None),
            ]:
                last = last or certificate(rank, row)
                counts = [0, 0]
                for move in all_moves(rank):
                    route = (move,) + undone_route([move])
                    above = row_size(plain_step(rank, move, row)) > row_size(row)
                    self.assertIs(check_separation(rank, row, (kind, route, last)), not above)
                    counts[above] += 1
                self.assertGreater(min(counts), 2)

    def test_rows_of_sixty_letters(self):
        row = ("a" * 30 + "b" * 30,)
        made = self.check(2, row)
        stretch = ("move", "a", "ab")
        thing = (made[0], (stretch,) + undone_route([stretch]) + made[1], made[2])
        self.assertIs(check_separation(2, row, thing), False)
        self.assertIs(check_separation(2, row, (made[0], ((("relabel", "ab"),) * 9) + made[1], made[2])), True)

    def changed(self, rank, made):
        """Changed tuples."""
        for k in range(3):
            yield made[:k] + made[k + 1:]
            yield made[:k] + made[k:k + 1] + made[k:]
        for thing in (list(made), (made,), made[::-1], made + ((),), made + (None,), {made[0]: made[1:]}, made[1:], ()):
            yield thing
        for name in ["connected", "separable", "Separable", "primitive", "", None, 0, b"separable", ("separable",)]:
            if name != made[0]:
                yield (name,) + made[1:]
        route = made[1]
        for other in (list(route), (route,), route + (None,), route + ((),), None, "", 0, {}, dict.fromkeys(route)):
            yield (made[0], other, made[2])
        for step in bad_steps(rank)[::3]:
            yield (made[0], route + (step,), made[2])
            yield (made[0], (step,) + route, made[2])
        for k, step in enumerate(route):
            yield (made[0], route[:k] + (list(step),) + route[k + 1:], made[2])
        last = made[2]
        for other in (list(last), last[:-1], last + ((),), last[::-1], None, (), last[:1] * len(last)):
            if other != last:
                yield made[:2] + (other,)

    def test_changed_tuples(self):
        for rank in RANKS:
            rows = CONNECTED[rank][:4] + [row for split in SPLITS[rank] for row in rows_over(split, 4)]
            for seed, row in enumerate(rows):
                longer = some_way(seed, rank, row, 40, 24)[1]
                made = self.check(rank, longer)
                for thing in self.changed(rank, made):
                    self.assertIs(check_separation(rank, longer, thing), False, (longer, thing))

    def test_changed_routes(self):
        for rank in RANKS:
            rows = CONNECTED[rank][:3] + [row for split in SPLITS[rank][:3] for row in rows_over(split, 4)]
            for seed, row in enumerate(rows):
                longer = some_way(seed, rank, row, 24, 24)[1]
                kind, route, last = self.check(rank, longer)
                others = [route[:k] + route[k + 1:] for k in range(len(route))]
                others += [route + (move,) for move in all_moves(rank)[::5]]
                others += [(move,) + route for move in all_moves(rank)[::5]]
                for other in others:
                    end = plain_end(rank, longer, other, row_size(longer))
                    expected = end is not None and (
                        plain_separates(last, end) if kind == "separable"
                        else is_connected(rank, end) and check_certificate(rank, end, last)
                    )
                    self.assertIs(check_separation(rank, longer, (kind, other, last)), expected)

    def test_certificates_of_graphs_that_are_not_connected(self):
        for rank in RANKS:
            for row in [("a",), ("a", "b"), ("aa", "bb"), ("abAB",)][:3 + (rank > 2)]:
                self.assertTrue(is_minimal_row(rank, row))
                thing = ("connected", (), certificate(rank, row))
                self.assertIs(check_separation(rank, row, thing), False)

    def test_certificates_of_other_rows(self):
        for rank in RANKS:
            for one in CONNECTED[rank]:
                for other in CONNECTED[rank]:
                    thing = ("connected", (), certificate(rank, other))
                    self.assertIs(check_separation(rank, one, thing), check_certificate(rank, one, thing[2]))
        # The graph of this row is connected, but the row is not minimal.
        self.assertTrue(is_connected(2, ("aabab",)))
        self.assertIs(check_separation(2, ("aabab",), ("connected", (), certificate(2, ("abAB",)))), False)

    def test_values_of_all_kinds(self):
        for rank in RANKS:
            for row in [("a",), ("abAB",), ("a" * 60,)]:
                for thing in nested_values() + bad_steps(rank)[::3]:
                    self.assertIs(check_separation(rank, row, thing), False)
                    for name in ("separable", "connected"):
                        self.assertIs(check_separation(rank, row, (name, thing)), False)
                        self.assertIs(check_separation(rank, row, (name, (), thing)), False)
                        self.assertIs(check_separation(rank, row, (name, thing, thing)), False)
                        if thing != ():
                            self.assertIs(check_separation(rank, row, (name, thing, ("a", BASE[rank][1:]))), False)

    def test_errors_come_before_things(self):
        for thing in (None, ("separable", (), ("a", "b"))):
            self.assertRaises(BadRank, check_separation, 5, (), thing)
            self.assertRaises(BadRow, check_separation, 2, ["a"], thing)


class Words(unittest.TestCase):
    def check(self, rank, word):
        made = primitive(rank, word)
        row = (plain_ring(word),)
        self.assertIs(type(made), tuple)
        self.assertIs(type(made[1]), tuple)
        way = plain_way(rank, row, made[1])
        self.assertEqual(max(row_size(each) for each in way), row_size(row))
        if made[0] == "primitive":
            self.assertEqual(len(made), 2)
            self.assertEqual(row_size(way[-1]), 1)
        else:
            self.assertEqual((made[0], len(made)), ("composite", 3))
            self.assertGreater(row_size(way[-1]), 1)
            self.assertTrue(is_minimal_row(rank, way[-1]))
            self.assertIs(check_certificate(rank, way[-1], made[2]), True)
        self.assertIs(check_primitive(rank, word, made), True)
        return made


class Primitive(Words):
    def test_images_of_a_letter(self):
        for rank in RANKS:
            count = 0
            for images in automorphisms(rank)[::1 if rank == 2 else 4]:
                for word in images[:2]:
                    if len(plain_ring(word)) <= 60:
                        self.assertEqual(self.check(rank, word)[0], "primitive", word)
                        self.assertEqual(self.check(rank, plain_inverse(word))[0], "primitive")
                        count += len(word) > 2
            self.assertGreater(count, 20)

    def test_long_words_whose_ring_is_short(self):
        for rank in RANKS:
            for ends, middle, kind in [
                ("ab" * 24 + "a", "b", "primitive"), ("b" * 48, "aab", "primitive"), ("ab" * 24, "aabb", "composite"),
                ("a" * 49, "b", "primitive"), ("b" * 49, "aa", "composite"), ("a" * 20, "b" * 60, "composite"),
            ]:
                word = plain_reduce(ends + middle + plain_inverse(ends))
                self.assertTrue(plain_is_word(rank, word))
                self.assertEqual(self.check(rank, word)[0], kind, word)

    def test_composite_words(self):
        for rank in RANKS:
            for word in ["aa", "BB", "abAB", "abab", "aabb", "aabaab", "a" * 60, "ab" * 30, "aBAb", "aabbAB", "abaB"]:
                self.assertEqual(self.check(rank, word)[0], "composite", word)
            for seed in range(12):
                root = plain_ring(some_word(seed, rank, 1 + seed))
                self.assertEqual(self.check(rank, root * 2)[0], "composite")
                self.assertEqual(self.check(rank, root * 3)[0], "composite")

    def test_images_of_words(self):
        for rank in RANKS:
            for images in automorphisms(rank)[5::13 * (1 if rank < 4 else 5)]:
                for word in ["ab", "aab", "aa", "abAB"]:
                    kind = "composite" if word in ("aa", "abAB") else "primitive"
                    longer = plain_image(images, word)
                    if len(longer) <= 100 and len(plain_ring(longer)) <= 60:
                        self.assertEqual(self.check(rank, longer)[0], kind)

    def test_all_short_words(self):
        for rank, longest in [(2, 6), (3, 3), (4, 2)]:
            for word in all_words(rank, longest)[1:]:
                least = row_size(plain_least_row(rank, (plain_ring(word),)))
                self.assertEqual(self.check(rank, word)[0], "primitive" if least == 1 else "composite", word)

    def test_the_empty_word(self):
        for rank in RANKS:
            self.assertRaises(BadWord, primitive, rank, "")
            self.assertRaises(BadWord, check_primitive, rank, "", ("primitive", ()))
            self.assertRaises(BadWord, check_primitive, rank, "", None)

    def test_too_long(self):
        for rank in RANKS:
            words = ["a" * 61, "a" * 100, "a" * 60 + "b", "ab" * 50]
            for word in words + ["b" + "a" * 61 + "B", "b" * 19 + "a" * 62 + "B" * 19]:
                for call in [lambda: primitive(rank, word), lambda: check_primitive(rank, word, None)]:
                    with self.assertRaises(TooLong) as caught:
                        call()
                    self.assertEqual(caught.exception.limit, 60)
            for word in ["a" * 60, "b" * 20 + "a" * 60 + "B" * 20, "a" * 59 + "b"]:
                self.check(rank, word)
            self.assertRaises(BadWord, primitive, rank, "a" * 101)
            self.assertRaises(BadWord, primitive, rank, "b" * 20 + "a" * 61 + "B" * 20)
            self.assertRaises(BadWord, primitive, rank, "a" * 61 + "A")

    def test_order_of_errors(self):
        self.assertRaises(BadRank, primitive, 1, "")
        self.assertRaises(BadRank, primitive, 5, "a" * 61)
        self.assertRaises(BadRank, check_primitive, True, "a" * 61, None)
        self.assertRaises(BadWord, check_primitive, 2, "c", None)
        self.assertRaises(BadWord, check_primitive, 2, ["a"], ("primitive", ()))


class CheckPrimitive(Words):
    def test_rows_on_the_way(self):
        for rank in RANKS:
            for word in ["Bab", "aab", "abAB", "aabb"]:
                kind = "composite" if word in ("abAB", "aabb") else "primitive"
                made = self.check(rank, word)
                row = (plain_ring(word),)
                for move in all_moves(rank):
                    above = row_size(plain_step(rank, move, row)) > row_size(row)
                    thing = (kind, (move,) + undone_route([move]) + made[1]) + made[2:]
                    self.assertIs(check_primitive(rank, word, thing), not above)

    def test_a_ring_and_its_words(self):
        for rank in RANKS:
            for word in ["aab", "aba", "baa", "baabaB", "BBaabbb", "ABaabba"]:
                made = primitive(rank, plain_ring(word))
                self.assertIs(check_primitive(rank, word, made), True)

    def test_the_other_kind(self):
        for rank in RANKS:
            for word in ["a", "ab", "aab", "abAB", "aa"]:
                row = (plain_ring(word),)
                for move in [()] + [(move,) for move in all_moves(rank)[::7]]:
                    end = plain_end(rank, row, move, row_size(row))
                    expected = end is not None and row_size(end) == 1
                    self.assertIs(check_primitive(rank, word, ("primitive", move)), expected)
            # A row of length 1 has a certificate, but is not composite.
            self.assertIs(check_primitive(rank, "a", ("composite", (), certificate(rank, ("a",)))), False)
            self.assertIs(check_primitive(rank, "bA", ("composite", (), certificate(rank, ("a",)))), False)
            self.assertIs(check_primitive(rank, "aa", ("composite", (), certificate(rank, ("aa",)))), True)
            self.assertIs(check_primitive(rank, "aa", ("composite", (), certificate(rank, ("bb",)))), False)
            self.assertIs(check_primitive(rank, "aa", ("primitive", ())), False)

    def test_changed_tuples(self):
        for rank in RANKS:
            for word in ["a", "Baab", "aabab", "abAB", "aabaaab", "aabb", "aabbAB", "bbaabbaBB"]:
                made = self.check(rank, word)
                things = [list(made), (made,), made[:1], made[1:], made + ((),), made[::-1], (), made[0], {made[0]: 1}]
                things += [(name,) + made[1:] for name in ["Primitive", "connected", "", None, 0, b"primitive"]]
                things += [("primitive",) + made[1:]] * (made[0] == "composite")
                things += [("composite",) + made[1:], ("composite",) + made[1:] + ((),)] * (made[0] == "primitive")
                for route in (list(made[1]), (made[1],), made[1] + (None,), None, "", 0, dict.fromkeys(made[1])):
                    things.append((made[0], route) + made[2:])
                for step in bad_steps(rank)[::3]:
                    things.append((made[0], made[1] + (step,)) + made[2:])
                    things.append((made[0], (step,) + made[1]) + made[2:])
                if made[0] == "composite":
                    flows = made[2]
                    others = [list(flows), flows[:-1], flows + ((),), None, (), ((),) * rank, flows[1:] + flows[:1]]
                    for other in others:
                        things.append(made[:2] + (other,))
                for thing in things:
                    self.assertIs(check_primitive(rank, word, thing), False, (word, thing))

    def test_values_of_all_kinds(self):
        for rank in RANKS:
            for word in ["a", "ab", "abAB", "ab" * 30]:
                for thing in nested_values() + bad_steps(rank)[::3]:
                    self.assertIs(check_primitive(rank, word, thing), False)
                    if thing != () or word != "a":
                        self.assertIs(check_primitive(rank, word, ("primitive", thing)), False)
                    self.assertIs(check_primitive(rank, word, ("composite", thing)), False)
                    self.assertIs(check_primitive(rank, word, ("composite", (), thing)), False)
                    self.assertIs(check_primitive(rank, word, ("composite", thing, thing)), False)

    def test_minimal_rings(self):
        for rank in RANKS:
            for row in MINIMAL[rank]:
                if len(row) == 1 and row_size(row) > 1:
                    thing = ("composite", (), certificate(rank, row))
                    self.assertIs(check_primitive(rank, row[0], thing), True)


if __name__ == "__main__":
    unittest.main()
