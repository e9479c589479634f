import copy
import inspect
import unittest

from endwise import terms
from endwise.errors import NoPath, TooGreat
from endwise.terms import (
    anew, blanks, count_parts, filled, head, heads, is_head, is_name, is_term, is_whole, levels, part, paths, put,
)
from helper import deep, refused, small_terms, strange_things, wide

A = ("a",)
TERM = ("f", A, 0, ("g", 12, ("h", 0, ("a", 3))))


class InterfaceTest(unittest.TestCase):
    def test_names_and_arguments(self):
        told = {
            "is_whole": ["thing"], "is_name": ["thing"], "is_term": ["thing"], "is_head": ["thing"],
            "head": ["term"], "levels": ["term"], "count_parts": ["term"], "blanks": ["term"],
            "heads": ["term"], "paths": ["term"], "part": ["term", "path"], "put": ["term", "path", "other"],
            "filled": ["term", "filling"], "anew": ["terms"],
        }
        for name, arguments in told.items():
            with self.subTest(name):
                self.assertEqual(arguments, list(inspect.signature(getattr(terms, name)).parameters))


class KindsTest(unittest.TestCase):
    def same(self, expected, answer):
        # assertEqual would take 1 for True.
        self.assertIs(expected, answer)

    def test_whole_numbers(self):
        for thing in (0, 1, -1, 999, 1000, 10 ** 299, -10 ** 299):
            self.same(True, is_whole(thing))

    def test_what_is_no_whole_number(self):
        for thing in strange_things():
            if thing not in (-1, -10 ** 200) or not isinstance(thing, int):
                self.same(False, is_whole(thing))
        for thing in ("0", (0,), [0], A, TERM):
            self.same(False, is_whole(thing))

    def test_names(self):
        for thing in ("a", "z", "az", "m", "abcdefgh", "zzzzzzzz", "stuvwxyz", "ijklmnop", "qr"):
            self.same(True, is_name(thing))

    def test_what_is_no_name(self):
        for thing in strange_things() + [0, 1, A, ("a", "b")]:
            self.same(False, is_name(thing))
        for thing in ("abcdefghi", "a1", "aB", "Z", "a_", "_", "a ", " a", "a\n", "a\t", "`", "{", "1", "?", "-", "a" * 99):
            self.same(False, is_name(thing))

    def test_blanks_are_from_0_to_999(self):
        for thing in (0, 1, 500, 999):
            self.same(True, is_term(thing))
            self.same(True, is_term(("f", thing)))
        for thing in (-1, 1000, 10 ** 299, True, False, "0", "?0"):
            self.same(False, is_term(thing))
            self.same(False, is_term(("f", thing)))

    def test_terms_of_one_and_of_eight_letters(self):
        for name in ("a", "z", "abcdefgh"):
            self.same(True, is_term((name,)))
            self.same(True, is_term((name, 0, A)))
        for name in ("", "abcdefghi", "A", "a1", "?", None, 0, b"a", ("a",), ["a"]):
            self.same(False, is_term((name,)))
            self.same(False, is_term((name, 0, A)))
            self.same(False, is_term(("f", 0, (name, A))))

    def test_terms_of_none_to_nine_places(self):
        for count in range(10):
            self.same(True, is_term(("f",) + (0,) * count))
            self.same(True, is_term(("g", ("f",) + (A,) * count)))
        for count in (10, 11, 500, 1999):
            self.same(False, is_term(("f",) + (0,) * count))
            self.same(False, is_term(("g", ("f",) + (A,) * count)))

    def test_what_is_no_term(self):
        for thing in strange_things() + ["a", "f(a)", (), (0,), (0, A), (0, 0)]:
            self.same(False, is_term(thing))
            self.same(False, is_term(("f", thing)))
            self.same(False, is_term(("f", A, ("g", 0, thing), A)))

    def test_60_levels_and_no_more(self):
        for leaf in (A, 0, 999):
            self.same(True, is_term(deep(59, leaf)))
            self.same(False, is_term(deep(60, leaf)))
        self.same(False, is_term(deep(150)))
        self.same(True, is_term(("f", A, deep(58))))
        self.same(False, is_term(("f", A, deep(59))))
        self.same(False, is_term(("f", deep(59), A)))

    def test_1000_parts_and_no_more(self):
        self.same(True, is_term(wide(1000)))
        self.same(False, is_term(wide(1001)))
        self.same(False, is_term(wide(5000)))

    def test_things_shared_in_very_many_places_are_answered(self):
        thing = A
        for _ in range(59):
            thing = ("f",) + (thing,) * 9
        self.same(False, is_term(thing))
        for _ in range(100):
            thing = (thing, thing, thing)
        self.same(False, is_term(thing))

    def test_heads(self):
        for thing in [("a", 0), ("abcdefgh", 9)] + [("f", count) for count in range(10)]:
            self.same(True, is_head(thing))
        for thing in strange_things() + ["a", 0, (), ("a",), ("a", 10), ("a", 10 ** 200), ("abcdefghi", 0)]:
            self.same(False, is_head(thing))
        for thing in (("a", 0, 0), ["a", 0], (0, "a"), (0, 0), ("a", (0,)), ("a", "0"), "a0", {"a": 0}):
            self.same(False, is_head(thing))


class LookingTest(unittest.TestCase):
    def test_head(self):
        self.assertEqual(("f", 3), head(TERM))
        self.assertEqual(("a", 0), head(A))
        self.assertEqual(("a", 1), head(("a", A)))
        self.assertEqual(("a", 9), head(("a",) + (0,) * 9))
        self.assertIsNone(head(0))
        self.assertIsNone(head(999))
        self.assertTrue(is_head(head(TERM)))

    def test_levels(self):
        self.assertEqual(1, levels(0))
        self.assertEqual(1, levels(A))
        self.assertEqual(2, levels(("f", 7)))
        self.assertEqual(5, levels(TERM))
        self.assertEqual(4, levels(("f", deep(2), A)))
        self.assertEqual(4, levels(("f", A, deep(2))))
        self.assertEqual(60, levels(deep(59)))

    def test_count_parts(self):
        self.assertEqual(1, count_parts(0))
        self.assertEqual(1, count_parts(A))
        self.assertEqual(9, count_parts(TERM))
        self.assertEqual(3, count_parts(("f", A, A)))
        self.assertEqual(60, count_parts(deep(59)))
        self.assertEqual(1000, count_parts(wide(1000)))

    def test_nothing_is_refused_somewhat_beyond_the_bounds(self):
        self.assertEqual(61, levels(deep(60)))
        self.assertEqual(1001, count_parts(wide(1001)))
        self.assertEqual([1000], blanks(("f", 1000)))
        self.assertEqual(("f", 10), head(("f",) + (0,) * 10))
        self.assertEqual([("a", 0), ("f", 1)], heads(deep(60)))
        self.assertEqual(1001, len(paths(wide(1001))))
        self.assertEqual(deep(59), part(deep(60), (0,)))
        self.assertEqual(A, put(deep(60), (), A))
        self.assertEqual(deep(59), put(deep(60), (0,) * 59, A))

    def test_blanks_as_met_first_from_the_left(self):
        self.assertEqual([], blanks(A))
        self.assertEqual([5], blanks(5))
        self.assertEqual([0, 12, 3], blanks(TERM))
        self.assertEqual([9, 1, 0, 999], blanks(("f", ("g", 9, ("h", 1)), 1, 0, ("g", 9), 999)))
        self.assertEqual([3, 2, 1], blanks(("f", ("f", ("f", 3), 2), 1)))

    def test_heads_sorted_each_once(self):
        self.assertEqual([], heads(0))
        self.assertEqual([("a", 0)], heads(A))
        self.assertEqual([("a", 0), ("a", 1), ("f", 3), ("g", 2), ("h", 2)], heads(TERM))
        self.assertEqual([("a", 0), ("ab", 0), ("b", 2), ("b", 3)], heads(("b", ("b", A, ("ab",)), A, ("ab",))))

    def test_paths_rise_each_part_ahead_of_its_own(self):
        self.assertEqual([()], paths(0))
        self.assertEqual([()], paths(A))
        self.assertEqual([(), (0,), (1,), (2,), (2, 0), (2, 1), (2, 1, 0), (2, 1, 1), (2, 1, 1, 0)], paths(TERM))
        self.assertEqual([(0,) * count for count in range(60)], paths(deep(59)))

    def test_all_small_terms_by_the_words_of_the_document(self):
        for term in small_terms(3):
            self.assertTrue(is_term(term))
            found = paths(term)
            self.assertEqual(sorted(set(found)), found)
            there = [part(term, path) for path in found]
            self.assertEqual(count_parts(term), len(found))
            self.assertEqual(levels(term), 1 + max(len(path) for path in found))
            self.assertEqual(sorted({head(one) for one in there if head(one)}), heads(term))
            self.assertEqual(list(dict.fromkeys(one for one in there if is_whole(one))), blanks(term))
            if head(term):
                self.assertEqual(count_parts(term), 1 + sum(map(count_parts, term[1:])))


class PartTest(unittest.TestCase):
    def test_the_empty_path_leads_to_the_term_itself(self):
        for term in (0, 999, A, TERM, deep(59), wide(1000)):
            self.assertEqual(term, part(term, ()))

    def test_part(self):
        self.assertEqual(A, part(TERM, (0,)))
        self.assertEqual(0, part(TERM, (1,)))
        self.assertEqual(("h", 0, ("a", 3)), part(TERM, (2, 1)))
        self.assertEqual(3, part(TERM, (2, 1, 1, 0)))
        self.assertEqual(A, part(deep(59), (0,) * 59))

    def test_paths_that_lead_nowhere(self):
        nowhere = [(3,), (-1,), (0, 0), (1, 0), (2, 2), (2, -1), (2, 1, 1, 1), (2, 1, 1, 0, 0), (10 ** 200,), (-3,)]
        for path in nowhere:
            refused(self, NoPath, part, TERM, path)
            refused(self, NoPath, put, TERM, path, A)
        for term in (0, A):
            refused(self, NoPath, part, term, (0,))
            refused(self, NoPath, put, term, (0,), A)
        refused(self, NoPath, part, deep(59), (0,) * 60)
        refused(self, NoPath, part, TERM, (0,) * 1999)

    def test_what_is_no_path(self):
        odd = strange_things() + ["0", "012", 0, 1, [0], [2, 1], ("0",), ("1",), (2, "1"), (2, True), (2, None), (2, [1])]
        odd.extend([(False,), (True,), (2, False), (2, True, True), (2, (1,)), ((2, 1),), {2: 1}, (2j,), b"\0"])
        for path in odd:
            with self.subTest(repr(path)):
                refused(self, NoPath, part, TERM, path)
                refused(self, NoPath, put, TERM, path, A)
                refused(self, NoPath, part, 0, path)

    def test_part_of_what_is_told_too_great(self):
        refused(self, TooGreat, part, deep(60), ())
        refused(self, TooGreat, part, wide(1001), ())


class PutTest(unittest.TestCase):
    def test_put(self):
        self.assertEqual(A, put(0, (), A))
        self.assertEqual(7, put(TERM, (), 7))
        self.assertEqual(("f", 7, 0, TERM[3]), put(TERM, (0,), 7))
        self.assertEqual(("f", A, 0, ("g", 12, A)), put(TERM, (2, 1), A))
        self.assertEqual(("f", A, 0, ("g", TERM, TERM[3][2])), put(TERM, (2, 0), TERM))
        self.assertEqual(("f", A, 0, ("g", 12, ("h", 0, ("a", A)))), put(TERM, (2, 1, 1, 0), A))

    def test_put_changes_this_place_and_no_other(self):
        for term in small_terms(3, (0, A)):
            for path in paths(term):
                self.assertEqual(term, put(term, path, part(term, path)))
                other = put(term, path, ("n", 5))
                self.assertEqual(("n", 5), part(other, path))
                for aside in paths(term):
                    if aside[:len(path)] != path and path[:len(aside)] != aside:
                        self.assertEqual(part(term, aside), part(other, aside))
                    if aside != path and path[:len(aside)] == aside:
                        self.assertEqual(head(part(term, aside)), head(part(other, aside)))

    def test_too_great(self):
        self.assertEqual(deep(59), put(deep(30), (0,) * 30, deep(29)))
        refused(self, TooGreat, put, deep(30), (0,) * 30, deep(30))
        refused(self, TooGreat, put, deep(59), (0,) * 59, deep(1))
        row = ("f", A, wide(500))
        self.assertEqual(1000, count_parts(put(row, (0,), wide(499))))
        refused(self, TooGreat, put, row, (0,), wide(500))
        refused(self, TooGreat, put, A, (), deep(60))
        refused(self, TooGreat, put, A, (), wide(1001))

    def test_the_path_is_refused_first(self):
        refused(self, NoPath, put, A, (0,), deep(60))
        refused(self, NoPath, put, deep(59), (0,) * 60, deep(59))
        refused(self, NoPath, put, wide(1000), [0], wide(1000))


class FilledTest(unittest.TestCase):
    def test_filled(self):
        self.assertEqual(A, filled(0, {0: A}))
        self.assertEqual(1, filled(1, {0: A}))
        self.assertEqual(A, filled(A, {0: 1}))
        self.assertEqual(TERM, filled(TERM, {}))
        self.assertEqual(TERM, filled(TERM, {1: A, 999: A}))
        self.assertEqual(("f", A, ("b",), ("g", 12, ("h", ("b",), ("a", 0)))), filled(TERM, {0: ("b",), 3: 0}))
        self.assertEqual(("f", A, 999), filled(("f", 0, 1), {1: 999, 0: A}))

    def test_all_at_once(self):
        term = ("f", 0, ("g", 1, 2))
        self.assertEqual(("f", 1, ("g", 0, 2)), filled(term, {0: 1, 1: 0}))
        self.assertEqual(("f", ("s", 0), ("g", 0, 2)), filled(term, {0: ("s", 0), 1: 0}))
        self.assertEqual(("f", ("s", 1), ("g", ("s", 2), ("s", 0))), filled(term, {0: ("s", 1), 1: ("s", 2), 2: ("s", 0)}))
        self.assertEqual(("f", ("s", 1), ("g", ("s", 2), ("s", 0))), filled(term, {2: ("s", 0), 1: ("s", 2), 0: ("s", 1)}))

    def test_too_great(self):
        self.assertEqual(deep(59), filled(deep(29, 0), {0: deep(30)}))
        refused(self, TooGreat, filled, deep(29, 0), {0: deep(31)})
        refused(self, TooGreat, filled, deep(59, 0), {0: deep(59)})
        self.assertEqual(1000, count_parts(filled(("f", 0, 0, 0), {0: wide(333)})))
        refused(self, TooGreat, filled, ("f", 0, 0, 0), {0: wide(334)})
        refused(self, TooGreat, filled, ("f",) + (0,) * 9, {0: wide(1000)})
        self.assertEqual(deep(59), filled(deep(59), {0: deep(59)}))

    def test_by_the_parts(self):
        filling = {0: ("n", 1), 1: ("m", 0, 1)}
        for term in small_terms(3):
            self.assertEqual(self.by_hand(term, filling), filled(term, filling))

    def by_hand(self, term, filling):
        for path in reversed(paths(term)):
            if is_whole(part(term, path)):
                term = put(term, path, filling[part(term, path)])
        return term


class AnewTest(unittest.TestCase):
    def test_anew(self):
        self.assertEqual([], anew([]))
        self.assertEqual([0], anew([7]))
        self.assertEqual([A], anew([A]))
        self.assertEqual([0, 0, 1], anew([7, 7, 3]))
        self.assertEqual([("f", A, 0, ("g", 1, ("h", 0, ("a", 2))))], anew([TERM]))

    def test_in_the_order_met_in_the_first_and_then_in_the_next(self):
        self.assertEqual([("f", 0, 1), ("g", 2, ("h", 1)), 0, 3], anew([("f", 5, 0), ("g", 1, ("h", 0)), 5, 2]))
        self.assertEqual([("f", 0, 1), ("f", 1, 0)], anew([("f", 1, 0), ("f", 0, 1)]))
        self.assertEqual([("f", ("g", 0), 1)], anew([("f", ("g", 1), 0)]))

    def test_a_thousand_blanks(self):
        together = [("f", 999 - number) for number in range(1000)]
        self.assertEqual([("f", number) for number in range(1000)], anew(together))

    def test_anew_again_is_the_same(self):
        for term in small_terms(3, (4, 2, 0)):
            told = anew([term])
            self.assertEqual(list(range(len(blanks(term)))), blanks(told[0]))
            self.assertEqual(told, anew(told))
            self.assertEqual([term], [filled(told[0], dict(enumerate(blanks(term))))])

    def test_what_is_told_too_great(self):
        refused(self, TooGreat, anew, [A, deep(60, 3)])


class OwnTest(unittest.TestCase):
    def test_nothing_handed_in_is_changed(self):
        filling = {0: ("s", 1), 1: 0, 3: deep(3)}
        before = copy.deepcopy(filling)
        filled(TERM, filling)
        refused(self, TooGreat, filled, deep(59, 3), filling)
        self.assertEqual(list(before.items()), list(filling.items()))
        together = [TERM, 9, ("f", 3, 4)]
        was = copy.deepcopy(together)
        anew(together)
        self.assertEqual(was, together)
        odd = [2, [1], {"a": [0]}]
        was = copy.deepcopy(odd)
        refused(self, NoPath, part, TERM, odd)
        refused(self, NoPath, put, TERM, (odd,), A)
        is_term(("f", odd))
        self.assertEqual(was, odd)

    def test_what_is_told_is_the_askers_own(self):
        for deed, handed in ((blanks, TERM), (heads, TERM), (paths, TERM), (anew, [TERM, 7])):
            with self.subTest(deed.__name__):
                first = deed(handed)
                self.assertIs(list, type(first))
                was = list(first)
                first.append("more")
                first[0] = None
                self.assertEqual(was, deed(handed))
        together = [A, 0]
        self.assertIsNot(together, anew(together))

    def test_a_later_change_of_what_was_handed_in_changes_nothing(self):
        filling = {0: A}
        told = filled(("f", 0), filling)
        filling[0] = 5
        self.assertEqual(("f", A), told)
        self.assertEqual(("f", 5), filled(("f", 0), filling))


if __name__ == "__main__":
    unittest.main()
