import copy
import inspect
import itertools
import unittest

from endwise.errors import NoRule, NoStep, TooGreat, TooLong
from endwise.fits import fit
from endwise.rules import Rules
from endwise.terms import count_parts, filled, is_term, levels, part, paths, put
from endwise.texts import read, shown
from helper import bush, deep, refused, ruled, small_terms, strange_things, wide

A = ("a",)
B = ("b",)
C = ("c",)
F0 = ("f", 0)
# Adding and doubling, by s and n.
SUMS = [
    (read("add(n,?0)"), 0),
    (read("add(s(?0),?1)"), read("s(add(?0,?1))")),
    (read("dbl(?3)"), read("add(?3,?3)")),
]
GROWING = [(F0, ("f", F0))]


class InterfaceTest(unittest.TestCase):
    def test_names_and_arguments(self):
        told = {
            "told": ["self"], "heads_of": ["self"], "steps": ["self", "term"], "walked": ["self", "term", "row"],
            "end": ["self", "term", "most"],
        }
        for name, arguments in told.items():
            self.assertEqual(arguments, list(inspect.signature(getattr(Rules, name)).parameters))
        self.assertEqual(200, inspect.signature(Rules.end).parameters["most"].default)
        self.assertEqual(["rules"], list(inspect.signature(Rules).parameters))

    def test_most_may_be_told_by_its_name(self):
        self.assertEqual(([((), 0)], A), Rules([(F0, 0)]).end(("f", A), most=1))


class MadeTest(unittest.TestCase):
    def test_rules_as_told(self):
        for told in ([], SUMS, [(F0, 0)], [(F0, F0)], [(A, A)], [(A, B), (A, B)], [(("f", 3, 999), ("g", 999, ("h", 999, 3)))]):
            with self.subTest(told):
                self.assertEqual(told, Rules(told).told())
                self.assertIs(list, type(Rules(told).told()))

    def test_what_is_no_list_of_rules(self):
        for thing in strange_things() + [0, 5, "a>b", A, F0, (F0, 0), tuple(SUMS), (), {F0: 0}, {0: (F0, 0)}, Rules([])]:
            if thing != [] or not isinstance(thing, list):
                with self.subTest(repr(thing)):
                    refused(self, NoRule, Rules, thing)

    def test_what_is_no_rule(self):
        odd = strange_things() + [0, A, F0, (), (F0,), (F0, 0, 0), (F0, 0, A), [F0, 0], "f>a", ((F0, 0),), [(F0, 0)], {F0: 0}]
        for thing in odd:
            with self.subTest(repr(thing)):
                refused(self, NoRule, Rules, [thing])
                refused(self, NoRule, Rules, SUMS + [thing])
                refused(self, NoRule, Rules, [thing] + SUMS)

    def test_what_is_no_term_of_a_rule(self):
        for thing in strange_things() + ["a", "f(a)", (), (0,), ("f", 1000), 1000, ("abcdefghi",), ("f",) + (0,) * 10]:
            with self.subTest(repr(thing)):
                refused(self, NoRule, Rules, [(thing, A)])
                refused(self, NoRule, Rules, [(F0, thing)])
                refused(self, NoRule, Rules, [(("g", F0, thing), A)])
                refused(self, NoRule, Rules, [(F0, ("g", F0, thing))])

    def test_the_left_side_is_no_blank(self):
        for right in (0, 1, A, F0):
            refused(self, NoRule, Rules, [(0, right)])
            refused(self, NoRule, Rules, SUMS + [(999, right)])

    def test_the_left_side_has_every_blank_of_the_right_one(self):
        for left, right in ((F0, 1), (A, 0), (A, F0), (("f", 1), F0), (("f", 1, 2), ("f", 1, ("g", 2, 3))), (F0, ("f", 0, 999))):
            refused(self, NoRule, Rules, [(left, right)])
            refused(self, NoRule, Rules, SUMS + [(left, right)])
        self.assertEqual([(("f", 1, 2), 2)], Rules([(("f", 1, 2), 2)]).told())

    def test_forty_rules_and_no_more(self):
        self.assertEqual([(F0, 0)] * 40, Rules([(F0, 0)] * 40).told())
        refused(self, NoRule, Rules, [(F0, 0)] * 41)
        refused(self, NoRule, Rules, [(F0, 0)] * 2000)

    def test_sides_at_the_bounds_and_beyond(self):
        for great in (deep(59), deep(59, 0), wide(1000)):
            self.assertEqual([(great, A)], Rules([(great, A)]).told())
        for great in (deep(59), deep(59, 0), wide(1000)):
            self.assertEqual([(F0, great)], Rules([(F0, great)]).told())
        for beyond in (deep(60), deep(60, 0), wide(1001)):
            refused(self, NoRule, Rules, [(beyond, A)])
            refused(self, NoRule, Rules, [(F0, beyond)])

    def test_heads(self):
        self.assertEqual([], Rules([]).heads_of())
        self.assertEqual([("add", 2), ("dbl", 1), ("n", 0), ("s", 1)], Rules(SUMS).heads_of())
        self.assertEqual([("a", 0), ("a", 1), ("b", 0), ("f", 1), ("f", 2)], ruled("f(a(?0))>f(b,?0)", "a>b", "b>a").heads_of())
        self.assertEqual([("z", 0)], ruled("z>z").heads_of())
        self.assertEqual([("b", 0), ("f", 1)], ruled("f(?0)>b").heads_of())
        self.assertEqual([("b", 0), ("f", 1)], ruled("f(b)>b").heads_of())


class StepsTest(unittest.TestCase):
    def test_steps(self):
        for texts, term, told in (
            ([], "f(a)", []),
            (["a>b"], "b", []),
            (["a>b"], "?0", []),
            (["a>b"], "a", [((), 0, "b")]),
            (["a>b"], "a(a)", [((0,), 0, "a(b)")]),
            (["f(?0)>?0"], "f(f(?7))", [((), 0, "f(?7)"), ((0,), 0, "f(?7)")]),
            (["f(?0)>a"], "g(?1,f(?1))", [((1,), 0, "g(?1,a)")]),
            (["f(a)>b"], "f(?0)", []),
            (["f(?0,?0)>?0"], "f(f(a,a),f(a,b))", [((0,), 0, "f(a,f(a,b))")]),
            (["f(?0,?1)>f(?1,?0)"], "f(?1,?0)", [((), 0, "f(?0,?1)")]),
            (["f(?0)>g(?0,?0)"], "f(?1)", [((), 0, "g(?1,?1)")]),
            (["a>b", "a>c", "f(?0,?1)>?1"], "f(a,a)", [
                ((), 2, "a"), ((0,), 0, "f(b,a)"), ((0,), 1, "f(c,a)"), ((1,), 0, "f(a,b)"), ((1,), 1, "f(a,c)"),
            ]),
            (["a>b", "g(?0)>?0"], "f(g(a),a)", [
                ((0,), 1, "f(a,a)"), ((0, 0), 0, "f(g(b),a)"), ((1,), 0, "f(g(a),b)"),
            ]),
        ):
            with self.subTest((texts, term)):
                found = ruled(*texts).steps(read(term))
                self.assertEqual([(path, number, read(text)) for path, number, text in told], found)
                self.assertIs(list, type(found))

    def test_the_same_rule_twice_makes_two_steps(self):
        self.assertEqual([((), 0, B), ((), 1, B)], ruled("a>b", "a>b").steps(A))

    def test_a_step_may_lead_to_the_same_term(self):
        self.assertEqual([((), 0, A)], ruled("a>a").steps(A))

    def test_blanks_of_rule_and_term_do_not_mix(self):
        self.assertEqual([((), 0, ("g", F0, 1))], ruled("f(?0,?1)>g(?1,?0)").steps(("f", 1, F0)))

    def test_all_small_terms_by_the_words_of_the_document(self):
        rules = ruled("g(?0,?0)>?0", "f(g(?0,?1))>g(f(?1),?0)", "a>f(a)", "f(?3)>b", "g(a,?0)>?0")
        for term in small_terms(3, (0, 1, A)):
            expected = []
            for path, number in itertools.product(paths(term), range(5)):
                left, right = rules.told()[number]
                filling = fit(left, part(term, path))
                if filling is not None:
                    expected.append((path, number, put(term, path, filled(right, filling))))
            self.assertEqual(expected, rules.steps(term))
            self.assertEqual(sorted(expected, key=lambda step: step[:2]), expected)

    def test_too_great_in_levels(self):
        growing = Rules(GROWING)
        for count in (1, 5, 58):
            self.assertEqual([((0,) * at, 0, deep(count + 1)) for at in range(count)], growing.steps(deep(count)))
        refused(self, TooGreat, growing.steps, deep(59))

    def test_too_great_in_parts(self):
        more = ruled("a>f(a)")
        self.assertEqual(1000, count_parts(more.steps(wide(999))[0][2]))
        refused(self, TooGreat, more.steps, wide(1000))
        twice = ruled("d(?0)>g(?0,?0)")
        self.assertEqual([999], [count_parts(step[2]) for step in twice.steps(("d", wide(499)))])
        refused(self, TooGreat, twice.steps, ("d", wide(500)))

    def test_refused_where_any_one_is_too_great(self):
        rules = ruled("f(?0)>a", "f(?0)>f(f(?0))")
        refused(self, TooGreat, rules.steps, deep(59))
        # The first steps are small; only that at the last path leads beyond.
        rules = ruled("f(?0)>?0", "b>f(b)")
        self.assertEqual(59, len(rules.steps(deep(59))))
        refused(self, TooGreat, rules.steps, deep(59, B))

    def test_rules_that_do_not_fit_refuse_nothing(self):
        self.assertEqual([], Rules([(F0, deep(59, 0)), (("g", F0), A)]).steps(("g", 0)))
        refused(self, TooGreat, Rules([(F0, deep(59, 0))]).steps, ("f", F0))

    def test_terms_handed_in_beyond_the_bounds(self):
        rules = ruled("f(?0)>?0", "g(?0,?1)>?1")
        self.assertEqual([deep(59)] * 60, [step[2] for step in rules.steps(deep(60))])
        self.assertEqual([], rules.steps(wide(1001)))
        # What is filled in may be too great where it does not stand in the term that is told.
        self.assertEqual([((), 1, A)], rules.steps(("g", wide(1001), A)))
        refused(self, TooGreat, ruled("a>b").steps, deep(60))


class WalkedTest(unittest.TestCase):
    def test_walked(self):
        rules = Rules(SUMS)
        term = read("dbl(s(n))")
        row = [((), 2), ((), 1), ((0,), 0)]
        texts = ["dbl(s(n))", "add(s(n),s(n))", "s(add(n,s(n)))", "s(s(n))"]
        for count in range(4):
            self.assertEqual([read(text) for text in texts[:count + 1]], rules.walked(term, row[:count]))
        self.assertIs(list, type(rules.walked(term, row)))

    def test_no_steps(self):
        for term in (0, A, F0, deep(59), wide(1000)):
            self.assertEqual([term], Rules([]).walked(term, []))
            self.assertEqual([term], Rules(SUMS).walked(term, []))

    def test_any_steps_may_be_taken_not_the_first_alone(self):
        rules = ruled("a>b", "a>c", "f(?0,?1)>?1")
        self.assertEqual([("f", A, A), ("f", A, C), ("f", B, C), C], rules.walked(("f", A, A), [((1,), 1), ((0,), 0), ((), 2)]))

    def test_all_small_terms_by_their_steps(self):
        rules = ruled("g(?0,?0)>?0", "f(g(?0,?1))>g(f(?1),?0)", "a>f(a)", "f(?3)>b")
        for term in small_terms(3, (0, A)):
            steps = {step[:2]: step[2] for step in rules.steps(term)}
            for step in itertools.product(paths(term) + [(0, 0, 0, 0), (2,), (-1,)], (-1, 0, 1, 2, 3, 4)):
                if step in steps:
                    self.assertEqual([term, steps[step]], rules.walked(term, [step]))
                else:
                    refused(self, NoStep, rules.walked, term, [step])

    def test_what_is_no_step(self):
        rules = ruled("f(?0)>a", "f(?0)>?0")
        term = ("f", ("f", B))
        odd = strange_things() + [0, A, (), ((),), ((), 0, 0), ((), 0, A), [(), 0], "()", {(): 0}, ((), 2), ((), -1), ((), 10 ** 200)]
        odd += [((), "0"), ((), (0,)), ([], 0), ([0], 0), ("", 0), (0, 0), (0, ()), ((0, 0), 0), ((1,), 0), ((-1,), 0), ((0, 0, 0), 0)]
        odd += [((), True), ((), False), ((False,), 0), ((0,), True), ((True,), 0), ((None,), 0), (("0",), 0), (((0,),), 0)]
        for thing in odd:
            with self.subTest(repr(thing)):
                refused(self, NoStep, rules.walked, term, [thing])
                refused(self, NoStep, rules.walked, term, [((0,), 1), ((), 1), thing])

    def test_of_anything_as_path_and_number(self):
        rules = ruled("f(?0)>a", "f(?0)>?0")
        for thing in strange_things():
            with self.subTest(repr(thing)):
                refused(self, NoStep, rules.walked, ("f", B), [(thing, 0)])
                refused(self, NoStep, rules.walked, ("f", B), [((), thing)])
                refused(self, NoStep, rules.walked, ("f", B), [((thing,), 0)])
                refused(self, NoStep, Rules([]).walked, ("f", B), [thing])

    def test_the_step_is_one_of_the_term_that_it_comes_to(self):
        rules = ruled("a>b", "b>c")
        self.assertEqual([A, B, C], rules.walked(A, [((), 0), ((), 1)]))
        refused(self, NoStep, rules.walked, A, [((), 1), ((), 0)])
        refused(self, NoStep, rules.walked, A, [((), 0), ((), 0)])
        refused(self, NoStep, rules.walked, A, [((), 0), ((), 1), ((), 1)])
        refused(self, NoStep, rules.walked, 0, [((), 0)])

    def test_too_great_and_its_bounds(self):
        growing = Rules(GROWING)
        self.assertEqual([deep(58), deep(59)], growing.walked(deep(58), [((), 0)]))
        refused(self, TooGreat, growing.walked, deep(59), [((), 0)])
        refused(self, TooGreat, growing.walked, deep(58), [((0,), 0), ((0, 0), 0)])
        more = ruled("a>f(a)")
        path = [path for path in paths(wide(999)) if part(wide(999), path) == A][0]
        self.assertEqual(1000, count_parts(more.walked(wide(999), [(path, 0)])[1]))
        refused(self, TooGreat, more.walked, wide(999), [(path, 0), (path + (0,), 0)])

    def test_other_steps_are_not_looked_at(self):
        rules = ruled("f(?0)>f(f(?0))", "f(?0)>?0", "b>f(b)")
        refused(self, TooGreat, rules.steps, deep(59, B))
        self.assertEqual([deep(59, B), deep(58, B)], rules.walked(deep(59, B), [((), 1)]))
        self.assertEqual([deep(59, B), deep(58, B), deep(59, B)], rules.walked(deep(59, B), [((), 1), ((0,) * 58, 2)]))

    def test_the_first_in_the_row_is_refused(self):
        rules = ruled("f(?0)>f(f(?0))", "f(?0)>?0")
        grow, shrink, none = ((), 0), ((), 1), ((1,), 0)
        refused(self, TooGreat, rules.walked, deep(59), [grow, none])
        refused(self, NoStep, rules.walked, deep(59), [none, grow])
        refused(self, NoStep, rules.walked, deep(59), [shrink, none, grow, grow])
        refused(self, TooGreat, rules.walked, deep(59), [shrink, grow, grow, None])
        refused(self, NoStep, rules.walked, deep(59), [shrink, grow, None, grow])

    def test_terms_handed_in_beyond_the_bounds(self):
        # The first term is told too; the steps' own refusals go ahead.
        rules = ruled("f(?0)>?0")
        refused(self, TooGreat, rules.walked, deep(60), [])
        refused(self, TooGreat, rules.walked, wide(1001), [])
        refused(self, TooGreat, rules.walked, deep(60), [((), 0)])
        refused(self, NoStep, rules.walked, deep(60), [((), 1)])

    def test_rows_that_were_told_are_walked(self):
        rules = Rules(SUMS)
        row, last = rules.end(read("dbl(dbl(s(s(n))))"))
        self.assertEqual(last, rules.walked(read("dbl(dbl(s(s(n))))"), row)[-1])


class EndTest(unittest.TestCase):
    def test_end(self):
        rules = Rules(SUMS)
        self.assertEqual(([], read("s(n)")), rules.end(read("s(n)")))
        self.assertEqual(([], 5), rules.end(5))
        self.assertEqual(([((), 0)], 7), rules.end(read("add(n,?7)")))
        self.assertEqual(([((), 2), ((), 1), ((0,), 0)], read("s(s(n))")), rules.end(read("dbl(s(n))")))
        self.assertEqual(([], F0), Rules([]).end(F0))

    def test_kinds(self):
        told = Rules(SUMS).end(read("dbl(s(n))"))
        self.assertIs(tuple, type(told))
        self.assertIs(list, type(told[0]))
        for step in told[0]:
            self.assertIs(tuple, type(step))
            self.assertEqual(2, len(step))

    def test_the_first_of_the_steps_is_taken(self):
        rules = ruled("a>b", "a>c", "f(?0,?1)>?1")
        self.assertEqual(([((), 2), ((), 0)], B), rules.end(("f", A, A)))
        self.assertEqual(([((0,), 0), ((1,), 0)], ("g", B, B)), rules.end(("g", A, A)))
        rules = ruled("f(?0,?1)>?1", "a>b", "a>c")
        self.assertEqual(([((), 0), ((), 1)], B), rules.end(("f", A, A)))

    def test_small_terms_by_the_words_of_the_document(self):
        rules = ruled("g(?0,?0)>?0", "f(g(?0,?1))>g(f(?1),?0)", "a>b", "f(f(?3))>?3")
        for term in small_terms(3, (0, A)):
            row, last = [], term
            while rules.steps(last):
                path, number, last = rules.steps(last)[0]
                row.append((path, number))
            self.assertEqual((row, last), rules.end(term))
            self.assertEqual(last, rules.walked(term, row)[-1])
            self.assertEqual((row, last), rules.end(term, len(row)))
            if row:
                refused(self, TooLong, rules.end, term, len(row) - 1)

    def test_most_told(self):
        rules = ruled("f(?0)>g(?0)")
        for count in range(12):
            self.assertEqual(count, len(rules.end(deep(count), count)[0]))
            self.assertEqual(count, len(rules.end(deep(count), count + 1)[0]))
            self.assertEqual(count, len(rules.end(deep(count), 1000)[0]))
            if count:
                refused(self, TooLong, rules.end, deep(count), count - 1)
                refused(self, TooLong, rules.end, deep(count), 0)

    def test_most_left_out_is_200(self):
        rules = ruled("a>b")
        self.assertEqual(200, len(rules.end(bush([A] * 200))[0]))
        refused(self, TooLong, rules.end, bush([A] * 200), 199)
        refused(self, TooLong, rules.end, bush([A] * 201))
        self.assertEqual(201, len(rules.end(bush([A] * 201), 201)[0]))

    def test_most_up_to_1000(self):
        rules = Rules([((chain_name(number),), (chain_name(number + 1),)) for number in range(38)] + [(("k", 0), 0)])
        # Each of the 26 leaves takes 38 steps to its end, and 12 of them one more ahead of these.
        term = bush([("k", (chain_name(0),))] * 12 + [(chain_name(0),)] * 14)
        row = rules.end(term, 1000)[0]
        self.assertEqual(1000, len(row))
        self.assertEqual(bush([(chain_name(38),)] * 26), rules.walked(term, row)[-1])
        refused(self, TooLong, rules.end, term, 999)
        forever = ruled("a>a")
        for most in (0, 1, 200, 999, 1000):
            refused(self, TooLong, forever.end, A, most)
        refused(self, TooLong, forever.end, A)

    def test_too_great_goes_ahead_of_too_long(self):
        growing = Rules(GROWING)
        refused(self, TooGreat, growing.end, deep(59), 0)
        refused(self, TooGreat, growing.end, deep(59))
        # 59 levels: one step leads to 60, whose steps are told and refused ahead of the count.
        refused(self, TooGreat, growing.end, deep(58), 1)
        refused(self, TooLong, growing.end, deep(58), 0)
        refused(self, TooLong, growing.end, deep(57), 1)
        refused(self, TooGreat, growing.end, deep(57), 2)
        refused(self, TooGreat, growing.end, ("f", A))
        refused(self, TooLong, growing.end, ("f", A), 57)
        refused(self, TooGreat, growing.end, ("f", A), 58)

    def test_too_great_though_the_first_step_is_small(self):
        rules = ruled("f(?0)>a", "f(?0)>f(f(?0))")
        refused(self, TooGreat, rules.end, deep(59))
        self.assertEqual(([((), 0)], A), rules.end(deep(58)))

    def test_terms_handed_in_beyond_the_bounds(self):
        self.assertEqual(([((), 0)], A), ruled("f(?0)>a").end(deep(60)))
        refused(self, TooGreat, Rules([]).end, deep(60))
        refused(self, TooGreat, Rules([]).end, wide(1001), 0)


def chain_name(number):
    return "c" + "abcdefghij"[number // 10] + "abcdefghij"[number % 10]


class OwnTest(unittest.TestCase):
    def test_nothing_handed_in_is_changed(self):
        handed = list(SUMS)
        rules = Rules(handed)
        self.assertEqual(SUMS, handed)
        row = [((), 2), ((), 1), ((0,), 0)]
        was = copy.deepcopy(row)
        rules.walked(read("dbl(s(n))"), row)
        refused(self, NoStep, rules.walked, read("dbl(n)"), row)
        self.assertEqual(was, row)
        odd = [[F0, 0], {"a": [1]}]
        was = copy.deepcopy(odd)
        refused(self, NoRule, Rules, odd)
        refused(self, NoStep, rules.walked, A, odd)
        self.assertEqual(was, odd)

    def test_a_later_change_of_what_was_handed_in_changes_nothing(self):
        handed = list(SUMS)
        rules = Rules(handed)
        handed.append((A, B))
        handed[0] = None
        handed.reverse()
        self.assertEqual(SUMS, rules.told())
        self.assertEqual(Rules(SUMS).heads_of(), rules.heads_of())
        self.assertEqual(Rules(SUMS).steps(read("add(n,n)")), rules.steps(read("add(n,n)")))
        self.assertEqual([], rules.steps(A))

    def test_what_is_told_is_the_askers_own(self):
        rules = Rules(SUMS)
        term = read("add(dbl(n),s(n))")
        deeds = (
            rules.told, rules.heads_of, lambda: rules.steps(term), lambda: rules.walked(term, [((0,), 2)]),
            lambda: rules.end(term)[0],
        )
        for deed in deeds:
            first = deed()
            was = copy.deepcopy(first)
            first.append("more")
            first[0] = None
            del first[1:]
            for again in deeds:
                again()
            self.assertEqual(was, deed())
        self.assertEqual(SUMS, rules.told())
        self.assertIsNot(rules.told(), rules.told())

    def test_walked_tells_no_list_of_the_askers(self):
        row = []
        self.assertIsNot(row, Rules([]).walked(A, row))

    def test_all_that_is_told_are_terms(self):
        rules = Rules(SUMS)
        for text in ("add(dbl(n),s(n))", "dbl(dbl(s(?4)))", "add(add(s(n),n),dbl(?0))"):
            for step in rules.steps(read(text)):
                self.assertTrue(is_term(step[2]))
                self.assertEqual(step[2], read(shown(step[2])))
            self.assertLessEqual(levels(rules.end(read(text))[1]), 60)


if __name__ == "__main__":
    unittest.main()
