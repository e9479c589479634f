import copy
import inspect
import unittest

from endwise import reasons
from endwise.errors import NoReason
from endwise.reasons import borne
from helper import Stranger, deep, refused, strange_things, wide

A = ("a",)
B = ("b",)
C = ("c",)
PAIRS = [(A, B), (B, C), (("f", A), ("g", 0, A))]


class BorneTest(unittest.TestCase):
    def test_names_and_arguments(self):
        self.assertEqual(["lines", "pairs"], list(inspect.signature(reasons.borne).parameters))

    def test_each_line(self):
        for lines, told in (
            ([("told", 0)], [(A, B)]),
            ([("told", 2)], [(("f", A), ("g", 0, A))]),
            ([("self", A)], [(A, A)]),
            ([("self", 7)], [(7, 7)]),
            ([("self", ("f", 0, A))], [(("f", 0, A), ("f", 0, A))]),
            ([("told", 0), ("back", 0)], [(A, B), (B, A)]),
            ([("told", 0), ("told", 1), ("then", 0, 1)], [(A, B), (B, C), (A, C)]),
            ([("told", 1), ("told", 0), ("then", 1, 0), ("back", 2), ("then", 3, 2)], [(B, C), (A, B), (A, C), (C, A), (C, C)]),
            ([("self", A), ("then", 0, 0)], [(A, A), (A, A)]),
            ([("in", "a", [])], [(A, A)]),
            ([("told", 0), ("in", "f", [0])], [(A, B), (("f", A), ("f", B))]),
            ([("told", 0), ("told", 1), ("in", "h", [1, 0, 1])], [(A, B), (B, C), (("h", B, A, B), ("h", C, B, C))]),
            ([("told", 0), ("in", "abcdefgh", [0] * 9)], [(A, B), (("abcdefgh",) + (A,) * 9, ("abcdefgh",) + (B,) * 9)]),
            ([("told", 0), ("back", 0), ("in", "g", [0, 1])], [(A, B), (B, A), (("g", A, B), ("g", B, A))]),
        ):
            with self.subTest(lines):
                found = borne(lines, PAIRS)
                self.assertEqual(told, found)
                self.assertEqual([list] + [tuple] * len(told), [type(found)] + [type(pair) for pair in found])

    def test_lines_that_are_not_needed_are_told_too(self):
        self.assertEqual([(C, C), (A, B), (A, B)], borne([("self", C), ("told", 0), ("told", 0)], PAIRS))

    def test_one_line_at_least(self):
        refused(self, NoReason, borne, [], PAIRS)
        refused(self, NoReason, borne, [], [])

    def test_what_is_no_list(self):
        for thing in strange_things() + [0, 1, "told", (), (("told", 0),), {0: ("told", 0)}, ("told", 0), {("told", 0)}]:
            with self.subTest(repr(thing)):
                refused(self, NoReason, borne, thing, PAIRS)

    def test_what_is_no_line(self):
        odd = [
            0, "told", ("told",), ("told", 0, 0), ["told", 0], ("Told", 0), ("tell", 0), ("", 0), (), ("self",), ("self", A, A), ("back",),
            ("back", 0, 0), ("then", 0), ("then",), ("then", 0, 0, 0), ("in", "f"), ("in", "f", [0], 0), ("in",), (0, "told"), (None, 0),
            (b"told", 0), (("told",), 0), (Stranger(), 0), (Stranger(), 0, 0), (["told"], 0), ("told 0",), ("then", (0, 0)), ("in", ("f", [0])),
            ("on", "f", []), ("In", "f", []), ("", "f", []), ("self", "f", []), ("told", "f", []), ("in", [], "f"),
        ]
        for thing in strange_things() + odd:
            with self.subTest(repr(thing)):
                refused(self, NoReason, borne, [thing], PAIRS)
                refused(self, NoReason, borne, [("self", A), thing], PAIRS)
                refused(self, NoReason, borne, [thing, ("self", A)], PAIRS)

    def test_numbers_of_pairs(self):
        for number in (3, 4, -1, -3, 10 ** 200, True, False, None, "0", (0,), [0], 0j, Stranger()):
            refused(self, NoReason, borne, [("told", number)], PAIRS)
        refused(self, NoReason, borne, [("told", 0)], [])

    def test_lines_named_stand_ahead(self):
        ahead = [("self", A), ("self", A)]
        for number in (0, 1):
            for line in (("back", number), ("then", number, 0), ("then", 0, number), ("in", "f", [number])):
                self.assertEqual(3, len(borne(ahead + [line], PAIRS)))
        for number in (2, 3, -1, -2, 10 ** 200, True, False, None, "0", (0,), [0], 0j, Stranger()):
            for line in (("back", number), ("then", number, 0), ("then", 0, number), ("in", "f", [number]), ("in", "f", [0, number])):
                refused(self, NoReason, borne, ahead + [line], PAIRS)
                refused(self, NoReason, borne, ahead + [line, ("self", A), ("self", A)], PAIRS)

    def test_one_behind_another(self):
        refused(self, NoReason, borne, [("told", 0), ("then", 0, 0)], PAIRS)
        refused(self, NoReason, borne, [("told", 0), ("told", 1), ("then", 1, 0)], PAIRS)
        refused(self, NoReason, borne, [("told", 0), ("self", C), ("then", 0, 1)], PAIRS)
        self.assertEqual((A, B), borne([("told", 0), ("self", B), ("then", 0, 1)], PAIRS)[-1])

    def test_any_term_is_like_itself_and_nothing_else(self):
        for thing in strange_things() + ["a", -1, 1000, ("f",) + (A,) * 10, ("abcdefghi",)]:
            with self.subTest(repr(thing)):
                refused(self, NoReason, borne, [("self", thing)], PAIRS)
        self.assertEqual([(999, 999)], borne([("self", 999)], []))

    def test_names_and_lines_of_in(self):
        for word in ("on", "then", "inn", "told", ""):
            refused(self, NoReason, borne, [("self", A), (word, "f", [0])], PAIRS)
        for name in ("", "A", "abcdefghi", "a b", None, 0, b"f", ("f",), Stranger(), "f\n"):
            refused(self, NoReason, borne, [("self", A), ("in", name, [0])], PAIRS)
        for lines in (0, (0,), None, {0: 0}, "0", [0] * 10, {0}, [[0]], Stranger()):
            refused(self, NoReason, borne, [("self", A), ("in", "f", lines)], PAIRS)
        self.assertEqual(("f",) + (A,) * 9, borne([("self", A), ("in", "f", [0] * 9)], PAIRS)[1][0])

    def test_a_line_whose_terms_are_too_great_is_none(self):
        self.assertEqual(2, len(borne([("self", deep(58)), ("in", "f", [0])], [])))
        refused(self, NoReason, borne, [("self", deep(59)), ("in", "f", [0])], [])
        refused(self, NoReason, borne, [("self", deep(60))], [])
        self.assertEqual(2, len(borne([("self", wide(333)), ("in", "f", [0] * 3)], [])))
        refused(self, NoReason, borne, [("self", wide(334)), ("in", "f", [0] * 3)], [])
        refused(self, NoReason, borne, [("self", wide(1001))], [])
        self.assertEqual(1, len(borne([("self", wide(1000))], [])))
        # On either side.
        for pair in ((A, deep(59)), (deep(59), A)):
            self.assertEqual([pair], borne([("told", 0)], [pair]))
            refused(self, NoReason, borne, [("told", 0), ("in", "f", [0])], [pair])
        for pair in ((A, deep(60)), (deep(60), A), (A, wide(1001))):
            refused(self, NoReason, borne, [("told", 0)], [pair])
            self.assertEqual([(A, A)], borne([("self", A)], [pair]))

    def test_many_lines(self):
        lines = [("self", A)] + [("then", number, 0) for number in range(1999)]
        self.assertEqual([(A, A)] * 2000, borne(lines, []))

    def test_nothing_is_changed_or_shared(self):
        lines = [("told", 0), ("in", "f", [0])]
        pairs = list(PAIRS)
        was = copy.deepcopy(lines)
        found = borne(lines, pairs)
        found.clear()
        self.assertEqual(was, lines)
        self.assertEqual(PAIRS, pairs)
        self.assertEqual([(A, B), (("f", A), ("f", B))], borne(lines, pairs))
        odd = [("told", 0), ["told", 0], {"x": [0]}]
        was = copy.deepcopy(odd)
        refused(self, NoReason, borne, odd, PAIRS)
        self.assertEqual(was, odd)


if __name__ == "__main__":
    unittest.main()
