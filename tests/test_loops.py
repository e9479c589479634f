import inspect
import itertools
import unittest

from endwise import loops
from endwise.calls import calls_of
from endwise.errors import TooGreat, TooLong
from endwise.fits import fit
from endwise.loops import chain, loop
from endwise.numbers import numbers_of
from endwise.ranks import ranks_of
from endwise.rules import Rules
from endwise.terms import part, paths
from endwise.texts import read
from helper import ACK, SUMS, deep, refused, ruled, small_terms, wide

A = ("a",)
B = ("b",)


def loop_by_words(rules, most):
    """The words of the document, one after another."""
    for left, right in rules.told():
        found = [(left, [])]
        gone = 0
        while gone < len(found) and gone < most:
            term, row = found[gone]
            for path, number, made in rules.steps(term):
                for where in paths(made):
                    filling = fit(left, part(made, where))
                    if filling is not None:
                        return (left, row + [(path, number)], where, filling)
                if made not in [old for old, way in found]:
                    found.append((made, row + [(path, number)]))
            gone += 1
    return None


class InterfaceTest(unittest.TestCase):
    def test_names_and_arguments(self):
        self.assertEqual(["rules", "most"], list(inspect.signature(loops.loop).parameters))
        self.assertEqual(50, inspect.signature(loops.loop).parameters["most"].default)
        self.assertEqual(["rules", "one", "other", "most"], list(inspect.signature(loops.chain).parameters))
        self.assertEqual(200, inspect.signature(loops.chain).parameters["most"].default)


class LoopTest(unittest.TestCase):
    def test_loops(self):
        for texts, term, row, path, filling in (
            (["a>a"], "a", [((), 0)], (), {}),
            (["a>f(a)"], "a", [((), 0)], (0,), {}),
            (["a>g(f(a),a)"], "a", [((), 0)], (0, 0), {}),
            (["f(?0)>f(?0)"], "f(?0)", [((), 0)], (), {0: 0}),
            (["f(?3)>f(g(?3,?3))"], "f(?3)", [((), 0)], (), {3: ("g", 3, 3)}),
            (["g(?0,?1)>g(?1,?0)"], "g(?0,?1)", [((), 0)], (), {0: 1, 1: 0}),
            (["a>b", "b>a"], "a", [((), 0), ((), 1)], (), {}),
            (["a>b", "b>c", "c>h(h(a))"], "a", [((), 0), ((), 1), ((), 2)], (0, 0), {}),
            (["f(?0)>g(?0)", "g(?0)>f(h(?0))"], "f(?0)", [((), 0), ((), 1)], (), {0: ("h", 0)}),
            # The loop is only that of a later left side.
            (["a>b", "b>f(b)"], "b", [((), 1)], (0,), {}),
            (["a>c", "f(?0,?1)>f(?0,?0)"], "f(?0,?1)", [((), 1)], (), {0: 0, 1: 0}),
            (["f(a)>f(b)", "b>a"], "f(a)", [((), 0), ((0,), 1)], (), {}),
            # The least path of several.
            (["a>g(b,g(a,a))"], "a", [((), 0)], (1, 0), {}),
            (["f(?0)>g(f(f(?0)),f(?0))"], "f(?0)", [((), 0)], (0,), {0: ("f", 0)}),
            # The first of the steps, and the shortest row.
            (["a>b", "a>c", "c>a", "b>d", "d>a"], "a", [((), 1), ((), 2)], (), {}),
            (["a>b", "a>c", "c>a", "b>a"], "a", [((), 0), ((), 3)], (), {}),
            (["a>g(b,c)", "c>a", "b>a"], "a", [((), 0), ((0,), 2)], (0,), {}),
            # What was found before by another row.
            (["a>b", "a>c", "b>d", "c>d", "d>a"], "a", [((), 0), ((), 2), ((), 4)], (), {}),
        ):
            with self.subTest(texts):
                found = loop(ruled(*texts))
                self.assertEqual((read(term), row, path, filling), found)
                self.assertEqual([tuple, list, tuple, dict], [type(found)] + [type(one) for one in found[1:]])
                self.assertEqual(loop_by_words(ruled(*texts), 50), found)

    def test_none(self):
        for texts in ([], ["a>b"], ["a>b", "b>c"], SUMS, ACK, ["f(?0)>?0"], ["f(f(?0))>f(?0)"], ["f(a)>f(b)"], ["f(?0,?0)>f(a,b)"]):
            self.assertIsNone(loop(ruled(*texts)), texts)

    def test_a_blank_of_the_term_is_not_filled(self):
        # The left side f(a) does not fit f(?0); and f(?0,?0) does not fit f(?0,?1).
        self.assertIsNone(loop(ruled("g(?0)>f(?0)", "f(a)>b")))
        self.assertIsNone(loop(ruled("f(a,?0)>f(?0,?0)")))

    def test_a_pool_by_the_words_of_the_document(self):
        pool = [
            "f(?0)>g(?0,?0)", "g(?0,?1)>f(?1)", "g(?0,?1)>f(?0)", "a>f(b)", "b>a", "f(a)>b", "f(b)>g(a,b)", "g(a,?0)>g(?0,b)",
            "g(?0,?0)>?0", "f(f(?0))>f(?0)", "g(b,?0)>g(?0,a)", "f(g(?0,?1))>g(f(?0),?1)", "g(f(?0),?1)>f(g(?0,?1))",
        ]
        outcomes = [0, 0, 0]
        for texts in itertools.chain(*[itertools.combinations(pool, count) for count in (1, 2, 3)]):
            rules = ruled(*texts)
            for most in (1, 4, 12):
                try:
                    expected = loop_by_words(rules, most)
                except TooGreat:
                    refused(self, TooGreat, loop, rules, most)
                    outcomes[2] += 1
                    continue
                found = loop(rules, most)
                self.assertEqual(expected, found, (texts, most))
                outcomes[found is None] += 1
        self.assertGreater(min(outcomes[:2]), 100, outcomes)

    def test_a_told_loop_goes_round(self):
        for texts in (["a>f(a)"], ["f(?0)>g(?0)", "g(?0)>f(h(?0))"], ["f(f(?0))>f(g(f(?0)))", "g(?0)>f(?0)"], ["k(a,b,?0)>k(?0,?0,?0)", "c>a", "c>b"]):
            rules = ruled(*texts)
            found = loop(rules)
            if found is not None:
                term, row, path, filling = found
                last = rules.walked(term, row)[-1]
                self.assertEqual(filling, fit(term, part(last, path)))
                self.assertGreaterEqual(len(row), 1)
                self.assertIn(term, [left for left, right in rules.told()])
        self.assertIsNotNone(loop(ruled("f(f(?0))>f(g(f(?0)))", "g(?0)>f(?0)")))

    def circle(self, count):
        """A loop for which so many terms must be gone through, whichever left side is first in it."""
        term = ("t", deep(count - 1))
        return Rules([(term, ("t", deep(count - 2))), (("t", ("f", 0)), ("t", 0)), (("t", A), term)])

    def test_at_most_so_many_are_gone_through(self):
        for count in (2, 3, 30, 50, 59):
            rules = self.circle(count)
            found = loop(rules, count)
            self.assertEqual((("t", deep(count - 1)), (), {}), (found[0], found[2], found[3]))
            self.assertEqual([((), 0)] + [((), 1)] * (count - 2) + [((), 2)], found[1])
            self.assertEqual(found, loop(rules, most=200))
            self.assertIsNone(loop(rules, count - 1))

    def test_fifty_left_out(self):
        self.assertIsNotNone(loop(self.circle(50)))
        self.assertIsNone(loop(self.circle(51)))
        self.assertIsNotNone(loop(self.circle(51), 51))

    def test_one_and_two_hundred(self):
        self.assertEqual((A, [((), 0)], (), {}), loop(ruled("a>a"), 1))
        self.assertIsNone(loop(ruled("a>b", "b>a"), 1))
        self.assertEqual((A, [((), 0), ((), 1)], (), {}), loop(ruled("a>b", "b>a"), 2))
        # The first left side leads to all g(f..f(a),f..f(a)), row by row; the last but one of them leads back.
        rules = Rules([
            (("p",), ("g", deep(13), deep(13))), (("g", ("f", 0), 1), ("g", 0, 1)), (("g", 0, ("f", 1)), ("g", 0, 1)), (("g", A, A), ("p",)),
        ])
        # Together with p these are 197, and the last one of them is g(a,a).
        self.assertEqual(28, len(loop(rules, 197)[1]))
        self.assertEqual(loop(rules, 197), loop(rules, 200))
        self.assertEqual(loop_by_words(rules, 200), loop(rules, 200))
        found = loop(rules, 196)
        self.assertTrue(found is None or found[0] != ("p",))
        self.assertEqual(loop_by_words(rules, 196), found)

    def test_too_great(self):
        rules = ruled("p>c(b)", "c(?0)>c(g(?0,?0))")
        refused(self, TooGreat, loop, rules)
        # All that can be gone through from p before a step is too great.
        terms = [("p",)]
        while True:
            try:
                terms.append(rules.steps(terms[-1])[0][2])
            except TooGreat:
                break
        refused(self, TooGreat, loop, rules, len(terms))
        self.assertEqual((("c", 0), [((), 1)], (), {0: ("g", 0, 0)}), loop(rules, len(terms) - 1))
        # Told ahead of it, where an earlier left side has a loop.
        self.assertEqual((("c", 0), [((), 0)], (), {0: ("g", 0, 0)}), loop(ruled("c(?0)>c(g(?0,?0))", "p>c(b)")))
        # All steps of a term are told first: that one of them is too great goes ahead of the loop.
        left = ("q", wide(350))
        both = Rules([(left, left), (("q", 0), ("h", 0, 0, 0))])
        refused(self, TooGreat, loop, both)
        self.assertEqual(left, loop(Rules([(left, left), (("q", 0), ("h", 0, 0))]))[0])

    def test_great_terms(self):
        self.assertEqual((wide(1000), [((), 0)], (), {}), loop(Rules([(wide(1000), wide(1000))])))
        self.assertEqual((deep(59), [((), 0)], (), {}), loop(Rules([(deep(59), deep(59))])))
        self.assertIsNone(loop(Rules([(deep(59), deep(58))])))
        self.assertEqual(("f", 0), loop(Rules([(("f", 0), deep(59, 0))]))[0])


class ChainTest(unittest.TestCase):
    def test_chains(self):
        rules = ruled(*SUMS[:2])
        n, s = ("n",), ("s", ("n",))
        one = read("add(s(n),n)")
        middle = read("s(add(n,n))")
        for first, second, told in (
            (n, n, []),
            (one, one, [
                (True, (), 1, middle), (True, (0,), 0, s), (False, (0,), 0, middle), (False, (), 1, one),
            ]),
            (one, s, [(True, (), 1, middle), (True, (0,), 0, s)]),
            (s, one, [(False, (0,), 0, middle), (False, (), 1, one)]),
            (one, read("add(n,s(n))"), [(True, (), 1, middle), (True, (0,), 0, s), (False, (), 0, read("add(n,s(n))"))]),
            (one, n, None), (n, one, None), (0, 0, []), (0, 1, None), (("z",), ("z",), []),
        ):
            found = chain(rules, first, second)
            self.assertEqual(told, found)
            if found is not None:
                self.assertEqual([list] + [tuple] * len(found), [type(found)] + [type(line) for line in found])
                self.assertTrue(all(line[0] is True or line[0] is False for line in found))
        self.assertEqual([], chain(Rules([]), A, A))
        self.assertIsNone(chain(Rules([]), A, B))

    def test_small_terms_by_the_words_of_the_document(self):
        rules = ruled("f(f(?0))>f(?0)", "g(?0,?0)>?0", "f(a)>b", "g(b,?0)>f(?0)")
        terms = small_terms(3, (A, B))[::7] + small_terms(2, (0, A, B))
        met = 0
        for one, other in itertools.product(terms, repeat=2):
            first, second = rules.end(one), rules.end(other)
            expected = None
            if first[1] == second[1]:
                met += 1
                walked, back = rules.walked(one, first[0]), rules.walked(other, second[0])
                expected = [(True,) + step + (walked[at + 1],) for at, step in enumerate(first[0])]
                expected += [(False,) + second[0][at] + (back[at],) for at in range(len(second[0]) - 1, -1, -1)]
            self.assertEqual(expected, chain(rules, one, other))
        self.assertGreater(met, 50)

    def test_at_most_so_many_steps_for_each(self):
        rules = Rules([(("f", 0), 0)])
        self.assertEqual(10, len(chain(rules, deep(5), deep(5), 5)))
        self.assertEqual(8, len(chain(rules, deep(5), deep(3), most=5)))
        refused(self, TooLong, chain, rules, deep(6), deep(3), 5)
        refused(self, TooLong, chain, rules, deep(3), deep(6), 5)
        self.assertEqual([], chain(rules, A, A, 0))
        refused(self, TooLong, chain, rules, deep(1), A, 0)
        spinning = Rules([(("h", 0), ("h", 0))])
        refused(self, TooLong, chain, spinning, ("h", A), A)
        refused(self, TooLong, chain, spinning, A, ("h", A), 1000)

    def test_two_hundred_left_out(self):
        four = Rules([((name, ("f", 0)), (name, 0)) for name in "cdeh"])

        def term(count):
            last = count - 150
            return ("t", ("c", deep(50)), ("d", deep(50)), ("e", deep(50)), ("h", deep(last)))

        self.assertEqual(400, len(chain(four, term(200), term(200))))
        refused(self, TooLong, chain, four, term(201), term(200))
        refused(self, TooLong, chain, four, term(200), term(201))
        self.assertEqual(402, len(chain(four, term(201), term(201), 201)))

    def test_the_ones_refusal_goes_first(self):
        rules = Rules([(("h", 0), ("h", 0)), (("k", 0), ("k", ("f", 0)))])
        refused(self, TooLong, chain, rules, ("h", A), ("k", A))
        refused(self, TooGreat, chain, rules, ("k", A), ("h", A))
        refused(self, TooGreat, chain, rules, A, ("k", A))
        refused(self, TooLong, chain, rules, A, ("h", A))
        # Unlike ends or not: both are reached.
        refused(self, TooGreat, chain, rules, ("k", A), B)

    def test_terms_beyond_the_bounds(self):
        # Those that would be told are refused: the other's first one, and ends.
        rules = Rules([(("q", 0), A)])
        great = ("q", deep(60))
        told = chain(rules, great, ("q", A))
        self.assertEqual([(True, (), 0, A), (False, (), 0, ("q", A))], told)
        refused(self, TooGreat, chain, rules, ("q", A), great)
        self.assertIsNone(chain(rules, B, great))
        refused(self, TooGreat, chain, rules, deep(60), A)
        refused(self, TooGreat, chain, rules, A, deep(60))


class WholeTest(unittest.TestCase):
    def test_no_loop_is_told_of_rules_that_a_paper_lets(self):
        pool = [
            "f(?0)>g(?0,?0)", "g(?0,?1)>f(?1)", "g(f(?0),?1)>g(?0,f(?1))", "a>b", "f(b)>f(f(a))", "b>f(a)", "g(?0,?1)>?0", "f(f(?0))>f(?0)",
            "g(?0,f(?1))>g(?1,?1)", "f(a)>g(a,b)", "g(?0,?1)>g(?1,?0)", "b>a", "f(g(?0,?1))>f(?0)", "g(a,?0)>f(?0)",
        ]
        outcomes = {"ranks": 0, "numbers": 0, "calls": 0, "loop": 0}
        for texts in itertools.chain(*[itertools.combinations(pool, count) for count in (1, 2, 3)]):
            rules = ruled(*texts)
            found = loop(rules, 12)
            outcomes["loop"] += found is not None
            for name, sought in (("ranks", ranks_of), ("numbers", numbers_of), ("calls", calls_of)):
                paper = sought(rules)
                if paper is not None:
                    outcomes[name] += 1
                    self.assertIsNone(found, (texts, name))
        self.assertGreater(min(outcomes.values()), 30, outcomes)

    def test_nothing_is_changed_or_shared(self):
        rules = ruled("f(?0)>g(?0)", "g(?0)>f(h(?0))")
        was = rules.told()
        found = loop(rules)
        found[1].clear()
        found[3].clear()
        self.assertEqual((("f", 0), [((), 0), ((), 1)], (), {0: ("h", 0)}), loop(rules))
        rules = ruled("f(?0)>?0")
        told = chain(rules, deep(2), deep(1))
        told.clear()
        self.assertEqual(3, len(chain(rules, deep(2), deep(1))))
        self.assertEqual(ruled("f(?0)>?0").told(), rules.told())
        self.assertEqual(ruled("f(?0)>g(?0)", "g(?0)>f(h(?0))").told(), was)


if __name__ == "__main__":
    unittest.main()
