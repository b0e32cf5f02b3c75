"""Points 28 and 29: the texts of rows, substitutions and routes, and their readers."""

import unittest

from plain import BASE, RANKS, all_moves, all_relabelings, all_steps, plain_identity
from reference import not_strings
from ringleast.errors import BadRank, BadText
from ringleast.texts import route_in, route_text, row_in, row_text, substitution_in, substitution_text
from samples import NONE, automorphisms, rows_of_all_kinds, some_route
from wrong import bad_steps


def plain_substitution_text(rank, images):
    text = ""
    for letter, word in zip(BASE[rank], images):
        text += letter + " = " + (word if len(word) > 0 else "1") + "\n"
    return text[:-1]


def plain_route_text(route):
    lines = []
    for step in route:
        if step[0] == "move":
            lines.append("move " + step[1] + " " + step[2])
        else:
            lines.append("relabel " + step[1])
    return "\n".join(lines)


class Reader(unittest.TestCase):
    def fails(self, line, function, rank, text):
        with self.assertRaises(BadText) as caught:
            function(rank, text)
        self.assertIs(type(caught.exception.line), int)
        self.assertEqual(caught.exception.line, line, text)

    def one_sign_changed(self, text):
        """Texts with a sign of one line removed, doubled or replaced, or another one before it, with the line."""
        for at, sign in enumerate(text):
            line = text[:at].count("\n") + 1
            if sign == "\n":
                continue
            yield line, text[:at] + text[at + 1:]
            yield line, text[:at] + sign + text[at:]
            for other in " =1e-:_\tzZ\r.,'":
                yield line, text[:at] + other + text[at + 1:]
                yield line, text[:at] + other + text[at:]
            yield line, text[:at] + sign.swapcase() + text[at + 1:]


class RowText(Reader):
    def test_there_and_back(self):
        for rank in RANKS:
            for row in rows_of_all_kinds(rank, 80):
                made = row_text(rank, row)
                self.assertIs(type(made), str)
                text = row[0]
                for ring in row[1:]:
                    text += " " + ring
                self.assertEqual(made, text)
                back = row_in(rank, made)
                self.assertEqual(back, row)
                self.assertIs(type(back), tuple)

    def test_spaces(self):
        for text in ["", " ", "  ", " a", "a ", "a  b", " a b", "a b ", "a   b", "ab  a", "a\tb", "a\u00a0b", "a\r"]:
            self.fails(1, row_in, 2, text)

    def test_lines(self):
        for text in ["a\n", "a\nb", "a\n\n", "ab a\nab a", "a\n ", "a\nba", "a\n\nb"]:
            self.fails(2, row_in, 2, text)
        for text in ["\n", "\na", "ba\n", "ba\na", "a \nb", " a\nb", "\n\n", "aA\na", "c\na"]:
            self.fails(1, row_in, 2, text)

    def test_rings(self):
        words = ["ba", "aA", "abA", "bab", "Aa", "1", "a,b", "a b a b a", "a a a a a", "x", "c", "abc", "()", "'a'"]
        for text in words + ["a" * 61, "a" * 30 + " " + "b" * 31, "a ba", "a c", "a 1", "a b a ba", "a" * 20000]:
            self.fails(1, row_in, 2, text)
        self.assertEqual(row_in(3, "abc"), ("abc",))
        self.assertEqual(row_in(2, "a" * 30 + " " + "b" * 30), ("a" * 30, "b" * 30))
        self.assertEqual(row_in(2, "a a a a"), ("a",) * 4)

    def test_one_sign_changed(self):
        for rank in RANKS:
            count = 0
            for text in ["ab a", "abAB b", "aabb", "a b A B"]:
                for line, changed in self.one_sign_changed(text):
                    try:
                        row = row_in(rank, changed)
                    except BadText as e:
                        self.assertEqual(e.line, line)
                        count += 1
                    else:
                        self.assertEqual(row_text(rank, row), changed)
            self.assertGreater(count, 300)


class SubstitutionText(Reader):
    def test_there_and_back(self):
        for rank in RANKS:
            for images in automorphisms(rank)[::3] + NONE[rank] + [("",) * rank, plain_identity(rank)]:
                made = substitution_text(rank, images)
                self.assertEqual(made, plain_substitution_text(rank, images))
                self.assertIs(type(made), str)
                back = substitution_in(rank, made)
                self.assertEqual(back, images)
                self.assertIs(type(back), tuple)

    def test_known_texts(self):
        self.assertEqual(substitution_text(2, ("", "bA")), "a = 1\nb = bA")
        self.assertEqual(substitution_text(4, ("", "", "", "")), "a = 1\nb = 1\nc = 1\nd = 1")
        self.assertEqual(substitution_in(3, "a = 1\nb = cab\nc = 1"), ("", "cab", ""))

    def test_one_sign_changed(self):
        for rank in RANKS:
            for images in [plain_identity(rank), ("ab", "", "c", "d")[:rank], ("", "BA", "bab", "d")[:rank]]:
                text = plain_substitution_text(rank, images)
                count = 0
                for line, changed in self.one_sign_changed(text):
                    try:
                        made = substitution_in(rank, changed)
                    except BadText as e:
                        self.assertEqual(e.line, line, changed)
                        count += 1
                    else:
                        self.assertEqual(plain_substitution_text(rank, made), changed)
                self.assertGreater(count, 100)

    def test_lines_missing(self):
        for rank in RANKS:
            lines = plain_substitution_text(rank, plain_identity(rank)).split("\n")
            for count in range(1, rank):
                self.fails(count + 1, substitution_in, rank, "\n".join(lines[:count]))
            for k in range(rank - 1):
                self.fails(k + 1, substitution_in, rank, "\n".join(lines[:k] + lines[k + 1:]))
            self.fails(1, substitution_in, rank, "")

    def test_lines_repeated_exchanged_and_more(self):
        for rank in RANKS:
            lines = plain_substitution_text(rank, ("ab", "", "c", "da")[:rank]).split("\n")
            for k in range(rank):
                self.fails(k + 2, substitution_in, rank, "\n".join(lines[:k + 1] + lines[k:]))
                self.fails(k + 1, substitution_in, rank, "\n".join(lines[:k] + [""] + lines[k:]))
                for m in range(k):
                    order = lines[:m] + [lines[k]] + lines[m + 1:k] + [lines[m]] + lines[k + 1:]
                    self.fails(m + 1, substitution_in, rank, "\n".join(order))
            for more in ["", " ", "e = a", "a = a", "c = c", "\n", "x"]:
                if not (rank == 2 and more == "c = c"):
                    self.fails(rank + 1, substitution_in, rank, "\n".join(lines) + "\n" + more)
            self.fails(rank + 1, substitution_in, rank, "\n".join(lines) + "\n")
            self.fails(1, substitution_in, rank, "\n" + "\n".join(lines))
            self.fails(2, substitution_in, rank, lines[0] + "\n")
            self.fails(2, substitution_in, rank, "\n\n".join(lines))
        self.fails(3, substitution_in, 2, "a = a\nb = b\nc = c")

    def test_images(self):
        wrong = ["", " ", "11", "1a", "a1", "aA", "abBa", "c", "ac", "a b", "a ", " a", "a" * 101, "\u0430", "2", "0"]
        for word in wrong:
            self.fails(1, substitution_in, 2, "a = " + word + "\nb = b")
            self.fails(2, substitution_in, 2, "a = a\nb = " + word)
            self.fails(1, substitution_in, 2, "a = " + word + "\nb = " + word)
        self.assertEqual(substitution_in(2, "a = " + "a" * 100 + "\nb = 1"), ("a" * 100, ""))
        self.assertEqual(substitution_in(3, "a = c\nb = aC\nc = 1"), ("c", "aC", ""))

    def test_starts(self):
        starts = ["a= ", "a =", "a=", " a = ", "a  = ", "a =  ", "a = = ", "A = ", "b = ", "= ", "a == ", "a : "]
        for start in starts + ["", "a", "a =\t", "a\t= ", "aa = ", "a: "]:
            self.fails(1, substitution_in, 2, start + "ab\nb = b")
            self.fails(2, substitution_in, 2, "a = a\n" + start.replace("b", "x").replace("a", "b") + "ab")
        for text in ["a = a\r\nb = b", "a = a\rb = b", "a = a;b = b", "a = a b = b", "a = a\u2028b = b"]:
            self.fails(1, substitution_in, 2, text)
        self.fails(2, substitution_in, 2, "a = a\nb = b\r")
        self.fails(2, substitution_in, 2, "a = a\nb = b ")


class RouteText(Reader):
    def routes(self, rank):
        return [some_route(seed, rank, seed) for seed in range(14)] + [(step,) for step in all_steps(rank)[::3]]

    def test_there_and_back(self):
        for rank in RANKS:
            for route in self.routes(rank) + [tuple(all_moves(rank)), tuple(all_relabelings(rank))]:
                made = route_text(rank, route)
                self.assertIs(type(made), str)
                self.assertEqual(made, plain_route_text(route))
                self.assertEqual(route_text(rank, list(route)), made)
                back = route_in(rank, made)
                self.assertEqual(back, route)
                self.assertIs(type(back), tuple)
                self.assertEqual({type(step) for step in back} | {tuple}, {tuple})

    def test_the_empty_route(self):
        for rank in RANKS:
            self.assertEqual(route_text(rank, ()), "")
            self.assertEqual(route_text(rank, []), "")
            self.assertEqual(route_in(rank, ""), ())

    def test_empty_lines(self):
        for rank in RANKS:
            good = "relabel " + BASE[rank]
            self.fails(1, route_in, rank, "\n")
            self.fails(1, route_in, rank, "\n\n")
            self.fails(1, route_in, rank, "\n" + good)
            self.fails(2, route_in, rank, good + "\n")
            self.fails(2, route_in, rank, good + "\n\n" + good)
            self.fails(3, route_in, rank, good + "\n" + good + "\n")
            self.fails(1, route_in, rank, " ")
            self.fails(2, route_in, rank, good + "\n ")

    def test_lines_that_are_no_steps(self):
        lines = [
            "move", "move a", "move a ab ", " move a ab", "move  a ab", "move a  ab", "move a ab b", "Move a ab", "1",
            "movea ab", "move a ba", "move a aA", "move a b", "move a A", "move a aab", "move ab ab", "move a e", "()",
            "move  ", "move a ", "relabel", "relabel ", "relabel a", "relabel aa", "relabel aA", "Relabel ab", "ab",
            "relabel a b", "relabels ab", "move\ta ab", "move a\tab", "move a ab\r", "move, a, ab", "move 1 ab",
            "('move', 'a', 'ab')", "relabel  ab",
        ]
        for rank in RANKS:
            good = "relabel " + BASE[rank]
            others = lines + [good + " ", " " + good, good + "a", good[:-1], good.replace(" ", "  ")]
            others += [good + " " + BASE[rank], good.upper(), good.replace(" ", "\t"), "move a ae"]
            for line in others:
                self.fails(1, route_in, rank, line)
                self.fails(1, route_in, rank, line + "\n" + line)
                self.fails(1, route_in, rank, line + "\n" + good)
                self.fails(2, route_in, rank, good + "\n" + line)
                self.fails(4, route_in, rank, "\n".join([good, "move a ab", "move B B", line, good, line]))

    def test_steps_of_another_rank(self):
        self.fails(1, route_in, 2, "move a ac")
        self.fails(1, route_in, 2, "move c c")
        self.fails(1, route_in, 2, "relabel abc")
        self.fails(2, route_in, 3, "relabel bca\nrelabel ab")
        self.assertEqual(route_in(3, "move a ac\nrelabel bcA"), (("move", "a", "ac"), ("relabel", "bcA")))

    def test_one_sign_changed(self):
        for rank in RANKS:
            route = (("move", "a", "ab"), ("relabel", BASE[rank][::-1]), ("move", "B", "aB"))
            count = 0
            for line, changed in self.one_sign_changed(plain_route_text(route)):
                try:
                    made = route_in(rank, changed)
                except BadText as e:
                    self.assertEqual(e.line, line, changed)
                    count += 1
                else:
                    self.assertEqual(plain_route_text(made), changed)
            self.assertGreater(count, 300)

    def test_lines_exchanged_and_repeated(self):
        for rank in RANKS:
            for route in self.routes(rank)[2:9]:
                lines = plain_route_text(route).split("\n")
                self.assertEqual(route_in(rank, "\n".join(lines[::-1])), route[::-1])
                self.assertEqual(route_in(rank, "\n".join(lines + lines)), route + route)

    def test_the_longest_texts(self):
        text = "\n".join(["move a ab"] * 2000)
        self.assertEqual(len(text), 19999)
        self.assertEqual(route_in(2, text), (("move", "a", "ab"),) * 2000)
        self.fails(2001, route_in, 2, text + "\n")


class Strings(Reader):
    def test_values_that_are_not_strings(self):
        for rank in RANKS:
            for function in (row_in, substitution_in, route_in):
                for value in not_strings() + [b"ab a", b"", ["ab a"], ("ab", "a"), ["a = a", "b = b"], bytearray(b"a")]:
                    self.fails(0, function, rank, value)

    def test_a_wrong_rank_comes_first(self):
        for function in (row_in, substitution_in, route_in):
            for text in (None, "", "a", "a = a\nb = b", "\n", 7):
                for rank in (0, 1, 5, True, None, "2", 2.0):
                    self.assertRaises(BadRank, function, rank, text)
                    self.assertRaises(BadRank, function, text=text, rank=rank)

    def test_texts_of_each_other(self):
        for rank in RANKS:
            images = plain_substitution_text(rank, plain_identity(rank))
            route = plain_route_text([("move", "a", "ab")])
            self.fails(1, row_in, rank, images)
            self.fails(1, row_in, rank, route)
            self.fails(1, substitution_in, rank, "ab a")
            self.fails(1, substitution_in, rank, route)
            self.fails(1, route_in, rank, images)
            self.fails(1, route_in, rank, "ab a")
            for thing in bad_steps(rank)[::9]:
                if isinstance(thing, str) and thing != "":
                    self.fails(1, route_in, rank, thing.replace("\n", " "))


if __name__ == "__main__":
    unittest.main()
