import inspect
import itertools
import random
import unittest

from endwise import overlaps as module
from endwise.errors import TooGreat, TooLong
from endwise.fits import fit
from endwise.numbers import numbers_of
from endwise.overlaps import overlaps, unlike_ends
from endwise.ranks import ranks_of
from endwise.rules import Rules
from endwise.terms import anew, blanks, filled, head, levels, part, paths, put
from endwise.texts import read, shown
from helper import SUMS, bush, deep, refused, ruled, small_terms, wide

A = ("a",)
B = ("b",)
C = ("c",)
GROUP = ["m(e,?0)>?0", "m(i(?0),?0)>e", "m(m(?0,?1),?2)>m(?0,m(?1,?2))"]
DONE = GROUP + [
    "m(i(?0),m(?0,?1))>?1", "m(?0,e)>?0", "m(?0,i(?0))>e", "m(?0,m(i(?0),?1))>?1", "i(e)>e", "i(i(?0))>?0", "i(m(?0,?1))>m(i(?1),i(?0))",
]


def resolved(term, bound):
    while term in bound:
        term = bound[term]
    return term


def within(blank, term, bound):
    term = resolved(term, bound)
    return term == blank or isinstance(term, tuple) and any(within(blank, place, bound) for place in term[1:])


def joined_by_words(one, other, bound):
    """As it is found in textbooks; the blanks of the one are texts, so that none is one of the other's."""
    one, other = resolved(one, bound), resolved(other, bound)
    if one == other:
        return True
    for blank, term in ((one, other), (other, one)):
        if not isinstance(blank, tuple):
            if within(blank, term, bound):
                return False
            bound[blank] = term
            return True
    if head(one) != head(other):
        return False
    return all(joined_by_words(first, second, bound) for first, second in zip(one[1:], other[1:]))


def applied(term, bound):
    term = resolved(term, bound)
    return term[:1] + tuple(applied(place, bound) for place in term[1:]) if isinstance(term, tuple) else term


def marked(term):
    return term[:1] + tuple(marked(place) for place in term[1:]) if isinstance(term, tuple) else f"?{term}"


def numbered(terms):
    """Blanks of any kind are exchanged for 0, 1, 2 and so on."""
    met = {}

    def anew_on(term):
        if isinstance(term, tuple):
            return term[:1] + tuple(anew_on(place) for place in term[1:])
        return met.setdefault(term, len(met))

    return [anew_on(term) for term in terms]


def overlaps_by_words(rules):
    found = []
    listed = rules.told()
    for i, (left, right) in enumerate(listed):
        for path in paths(left):
            for j, (other_left, other_right) in enumerate(listed):
                there, bound = part(left, path), {}
                if isinstance(there, int) or (i == j and path == ()):
                    continue
                if joined_by_words(there, marked(other_left), bound):
                    peak, one = applied(left, bound), applied(right, bound)
                    other = put(peak, path, applied(marked(other_right), bound))
                    found.append((i, path, j) + tuple(numbered([peak, one, other])))
    return found


class InterfaceTest(unittest.TestCase):
    def test_names_and_arguments(self):
        self.assertEqual(["rules"], list(inspect.signature(module.overlaps).parameters))
        self.assertEqual(["rules", "most"], list(inspect.signature(module.unlike_ends).parameters))
        self.assertEqual(200, inspect.signature(module.unlike_ends).parameters["most"].default)


class OverlapsTest(unittest.TestCase):
    def told(self, *texts):
        return [
            (i, path, j, shown(peak), shown(one), shown(other)) for i, path, j, peak, one, other in overlaps(ruled(*texts))
        ]

    def test_overlaps(self):
        for texts, told in (
            ([], []),
            (["a>b"], []),
            (["a>b", "a>c"], [(0, (), 1, "a", "b", "c"), (1, (), 0, "a", "c", "b")]),
            (["a>b", "a>b"], [(0, (), 1, "a", "b", "b"), (1, (), 0, "a", "b", "b")]),
            (["f(?0)>?0"], []),
            (["f(f(?0))>?0"], [(0, (0,), 0, "f(f(f(?0)))", "f(?0)", "f(?0)")]),
            (["f(f(?0))>g(?0)"], [(0, (0,), 0, "f(f(f(?0)))", "g(f(?0))", "f(g(?0))")]),
            (["f(a)>b", "a>c"], [(0, (0,), 1, "f(a)", "b", "f(c)")]),
            (["f(?0)>b", "a>c"], []),
            (["f(?5,g(?7))>?7", "g(h(?7))>?7"], [(0, (1,), 1, "f(?0,g(h(?1)))", "h(?1)", "f(?0,?1)")]),
            (["f(?0,?0)>?0", "f(?1,g(?1))>a"], []),
            (["f(?0,?1)>?1", "f(?1,?0)>?1"], [(0, (), 1, "f(?0,?1)", "?1", "?0"), (1, (), 0, "f(?0,?1)", "?0", "?1")]),
            (["f(?0,?0)>?0", "f(?1,g(?2))>?2"], [(0, (), 1, "f(g(?0),g(?0))", "g(?0)", "?0"), (1, (), 0, "f(g(?0),g(?0))", "?0", "g(?0)")]),
            (SUMS[:2] + ["add(?0,n)>?0"], [
                (0, (), 2, "add(n,n)", "n", "n"), (1, (), 2, "add(s(?0),n)", "s(add(?0,n))", "s(?0)"),
                (2, (), 0, "add(n,n)", "n", "n"), (2, (), 1, "add(s(?0),n)", "s(?0)", "s(add(?0,n))"),
            ]),
            (GROUP, [
                (2, (0,), 0, "m(m(e,?0),?1)", "m(e,m(?0,?1))", "m(?0,?1)"),
                (2, (0,), 1, "m(m(i(?0),?0),?1)", "m(i(?0),m(?0,?1))", "m(e,?1)"),
                (2, (0,), 2, "m(m(m(?0,?1),?2),?3)", "m(m(?0,?1),m(?2,?3))", "m(m(?0,m(?1,?2)),?3)"),
            ]),
        ):
            with self.subTest(texts):
                self.assertEqual(told, self.told(*texts))
                self.assertIs(list, type(overlaps(ruled(*texts))))
                self.assertEqual(overlaps_by_words(ruled(*texts)), overlaps(ruled(*texts)))

    def test_by_rising_i_path_j(self):
        found = [one[:3] for one in overlaps(ruled(*DONE))]
        self.assertEqual(sorted(found), found)
        self.assertEqual(len(set(found)), len(found))
        self.assertGreater(len(found), 40)
        self.assertEqual(overlaps_by_words(ruled(*DONE)), overlaps(ruled(*DONE)))

    def thrown(self, dice, deepest, leaves):
        if deepest == 1 or dice.random() < 0.3:
            return dice.choice(leaves)
        name, count = dice.choice([("f", 1), ("g", 2), ("a", 0)])
        return (name,) + tuple(self.thrown(dice, deepest - 1, leaves) for _ in range(count))

    def thrown_rules(self, dice):
        listed = []
        while len(listed) < 3:
            left = self.thrown(dice, 4, [0, 1, 2, A])
            if isinstance(left, tuple):
                listed.append((left, self.thrown(dice, 3, blanks(left) + [A])))
        return Rules(listed)

    def test_thrown_rules_by_the_words_of_the_document(self):
        dice = random.Random(3)
        met = 0
        for _ in range(150):
            rules = self.thrown_rules(dice)
            found = overlaps(rules)
            self.assertEqual(overlaps_by_words(rules), found)
            met += len(found)
            for i, path, j, peak, one, other in found:
                self.assertEqual([peak, one, other], anew([peak, one, other]))
                self.assertEqual([peak, one], rules.walked(peak, [((), i)]))
                self.assertEqual([peak, other], rules.walked(peak, [(path, j)]))
        self.assertGreater(met, 150)

    def test_every_term_that_both_rules_fit_is_a_filled_peak(self):
        rules = ruled("g(f(?0),?1)>?0", "g(?0,?0)>?0", "f(g(?0,a))>?0", "g(?0,f(?1))>?1")
        peaks = {one[:3]: one[3] for one in overlaps(rules)}
        met = set()
        for term in small_terms(3, (0, A)):
            for i, (left, right) in enumerate(rules.told()):
                for path in paths(left):
                    for j, (other_left, other_right) in enumerate(rules.told()):
                        if fit(left, term) is None or isinstance(part(left, path), int) or (i == j and path == ()):
                            continue
                        if fit(other_left, part(term, path)) is not None:
                            self.assertIsNotNone(fit(peaks[i, path, j], term))
                            met.add((i, path, j))
        self.assertEqual({(0, (0,), 2), (2, (0,), 0), (3, (1,), 2)}, set(peaks) - met, "those that ask for more levels")

    def test_many_blanks(self):
        # Both left sides have so many blanks that not all of them together could be numbered as in terms.
        left = bush(range(800))
        other_left = bush([999 - blank for blank in range(800)])
        found = overlaps(Rules([(left, 0), (other_left, 201)]))
        self.assertEqual([(0, (), 1), (1, (), 0)], [one[:3] for one in found])
        self.assertEqual((left, 0, 798), found[0][3:])
        self.assertEqual((left, 798, 0), found[1][3:])

    def test_sixty_levels_and_no_more(self):
        # The peak.
        rules = [(("f", ("g", 0, 0)), A), (("g", deep(57), 1), A)]
        self.assertEqual(60, levels(overlaps(Rules(rules))[0][3]))
        refused(self, TooGreat, overlaps, Rules([(("f", ("g", 0, 0)), A), (("g", deep(58), 1), A)]))
        # One, the right side of the first rule.
        rules = Rules([(("f", ("g", 0)), ("h", ("h", 0))), (("g", deep(57)), A)])
        self.assertEqual([60, 60], [levels(side) for side in overlaps(rules)[0][3:5]])
        refused(self, TooGreat, overlaps, Rules([(("f", ("g", 0)), ("h", ("h", ("h", 0)))), (("g", deep(57)), A)]))
        # Other, with the right side of the second rule.
        rules = Rules([(("f", ("g", deep(56))), A), (("g", 0), ("h", ("h", 0)))])
        self.assertEqual([59, 60], [levels(side) for side in (overlaps(rules)[0][3], overlaps(rules)[0][5])])
        refused(self, TooGreat, overlaps, Rules([(("f", ("g", deep(56))), A), (("g", 0), ("h", ("h", ("h", 0))))]))

    def test_a_thousand_parts_and_no_more(self):
        for count, great in ((332, False), (333, True)):
            rules = Rules([(("f", ("g", 0), 0, 0), A), (("g", wide(count)), B)])
            if great:
                refused(self, TooGreat, overlaps, rules)
            else:
                self.assertEqual((0, (0,), 1, ("f", ("g", wide(count)), wide(count), wide(count)), A), overlaps(rules)[0][:5])
        # One.
        for count, great in ((333, False), (334, True)):
            rules = Rules([(("f", ("g", 0)), ("h", 0, 0, 0)), (("g", wide(count)), B)])
            if great:
                refused(self, TooGreat, overlaps, rules)
            else:
                self.assertEqual(("h",) + (wide(count),) * 3, overlaps(rules)[0][4])
        # Other.
        self.assertEqual(("f", ("h",) + (wide(332),) * 3), overlaps(Rules([(("f", ("g", wide(332))), A), (("g", 0), ("h", 0, 0, 0))]))[0][5])
        refused(self, TooGreat, overlaps, Rules([(("f", ("g", wide(333))), A), (("g", 0), ("h", 0, 0, 0))]))

    def test_too_great_wherever_it_stands(self):
        great = [(("f", ("g", 0, 0)), A), (("g", deep(58), 1), A)]
        refused(self, TooGreat, overlaps, Rules(great + [(C, A), (C, B)]))
        refused(self, TooGreat, overlaps, Rules([(C, A), (C, B)] + great))

    def test_a_filling_that_grows_without_measure(self):
        # Each blank is two of the next one.
        one = ("f",) + tuple(range(1, 10))
        other = ("f",) + tuple(("g", blank, blank) for blank in range(9))
        row = Rules([(("h", one, 0), A), (("h", other, 9), A)])
        self.assertEqual(2, len(overlaps(row)))
        first = bush(range(1, 41))
        second = bush([("g", blank, blank) for blank in range(40)])
        refused(self, TooGreat, overlaps, Rules([(("h", first, second), A), (("h", 0, 0), B)]))

    def test_no_overlap_where_none_is_joined_however_great(self):
        # Unlike heads meet; and a blank would lie within its own term.
        self.assertEqual([], overlaps(Rules([(("f", ("g", 0, 0, A)), A), (("g", deep(57), 1, B), A)])))
        self.assertEqual([], overlaps(Rules([(("f", 0, 0), A), (("f", 1, ("g", 1)), A)])))


class UnlikeEndsTest(unittest.TestCase):
    def test_none(self):
        for texts in (
            [], ["a>b"], ["a>b", "a>b"], ["f(f(?0))>?0"], SUMS, SUMS[:2] + ["add(?0,n)>?0"], ["a>b", "a>c", "b>d", "c>d"], DONE,
            ["f(f(?0))>f(?0)"],
        ):
            self.assertIsNone(unlike_ends(ruled(*texts)), texts)

    def test_the_first_overlap_whose_ends_are_unlike(self):
        for texts, peak, row, other_row in (
            (["a>b", "a>c"], "a", [((), 0)], [((), 1)]),
            (["f(f(?0))>g(?0)"], "f(f(f(?0)))", [((), 0)], [((0,), 0)]),
            (["f(a)>b", "a>c"], "f(a)", [((), 0)], [((0,), 1)]),
            (["f(a)>b", "a>c", "b>d", "f(c)>e", "e>h"], "f(a)", [((), 0), ((), 2)], [((0,), 1), ((), 3), ((), 4)]),
            (["a>b", "a>b", "c>a", "c>d"], "c", [((), 2), ((), 0)], [((), 3)]),
            (GROUP, "m(m(i(?0),?0),?1)", [((), 2)], [((0,), 1), ((), 0)]),
            (["f(?0,?1)>?1", "f(?1,?0)>?1"], "f(?0,?1)", [((), 0)], [((), 1)]),
        ):
            with self.subTest(texts):
                found = unlike_ends(ruled(*texts))
                self.assertEqual((read(peak), row, other_row), found)
                self.assertEqual([tuple, list, list], [type(found)] + [type(one) for one in found[1:]])

    def test_the_rows_lead_to_the_ends(self):
        dice = random.Random(8)
        maker = OverlapsTest()
        outcomes = [0, 0]
        for _ in range(1200):
            rules = maker.thrown_rules(dice)
            if ranks_of(rules) is None:
                continue
            expected = None
            for i, path, j, peak, one, other in overlaps(rules):
                ends = [rules.end(one), rules.end(other)]
                if ends[0][1] != ends[1][1]:
                    expected = (peak, [((), i)] + ends[0][0], [(path, j)] + ends[1][0])
                    break
            found = unlike_ends(rules)
            self.assertEqual(expected, found)
            outcomes[found is None] += 1
            if found is not None:
                lasts = [rules.walked(found[0], row)[-1] for row in found[1:]]
                self.assertNotEqual(*lasts)
                self.assertEqual([[], []], [rules.steps(last) for last in lasts])
        self.assertGreater(min(outcomes), 15, outcomes)

    def test_at_most_so_many_steps(self):
        # Behind the overlap one takes two steps, other three.
        rules = ruled("p>a", "p>x", "a>b", "b>c", "x>y", "y>z", "z>w")
        told = (("p",), [((), 0), ((), 2), ((), 3)], [((), 1), ((), 4), ((), 5), ((), 6)])
        self.assertEqual(told, unlike_ends(rules, 3))
        self.assertEqual(told, unlike_ends(rules, most=1000))
        self.assertEqual(told, unlike_ends(rules))
        for most in (0, 1, 2):
            refused(self, TooLong, unlike_ends, rules, most)
        self.assertEqual((A, [((), 0)], [((), 1)]), unlike_ends(ruled("a>b", "a>c"), 0))
        self.assertIsNone(unlike_ends(Rules([]), 0))

    def test_two_hundred_steps_left_out(self):
        # In one the four rows of f go, one after another.
        four = Rules([
            (("p",), ("d",) + (deep(50, B),) * 4), (("p",), A), (("d", ("f", 0), 1, 2, 3), ("d", 0, 1, 2, 3)),
            (("d", 0, ("f", 1), 2, 3), ("d", 0, 1, 2, 3)), (("d", 0, 1, ("f", 2), 3), ("d", 0, 1, 2, 3)),
            (("d", 0, 1, 2, ("f", 3)), ("d", 0, 1, 2, 3)),
        ])
        self.assertEqual(201, len(unlike_ends(four)[1]))
        more = Rules([(("p",), ("d", deep(51, B)) + (deep(50, B),) * 3)] + four.told()[1:])
        refused(self, TooLong, unlike_ends, more)
        self.assertEqual(202, len(unlike_ends(more, 201)[1]))

    def test_refusals_in_their_order(self):
        great = [(("f", ("g", 0, 0)), A), (("g", deep(58), 1), A)]
        endless = [(("h", 0), ("h", 0)), (("u",), ("h", A)), (("u",), B)]
        # The overlaps are told first, all of them.
        refused(self, TooGreat, unlike_ends, Rules([(C, A), (C, B)] + great))
        refused(self, TooGreat, unlike_ends, Rules(endless + great))
        refused(self, TooLong, unlike_ends, Rules(endless))
        # Then each overlap in its order: what is told ahead of an endless one is told.
        self.assertEqual((C, [((), 0)], [((), 1)]), unlike_ends(Rules([(C, A), (C, B)] + endless)))
        refused(self, TooLong, unlike_ends, Rules(endless + [(C, A), (C, B)]))
        # Of one overlap the one's end is reached first.
        growing = (("k", 0), ("k", ("f", 0)))
        spinning = (("h", 0), ("h", 0))
        to_grow, to_spin = (("u",), ("k", A)), (("u",), ("h", A))
        refused(self, TooGreat, unlike_ends, Rules([to_grow, to_spin, growing, spinning]))
        refused(self, TooLong, unlike_ends, Rules([to_spin, to_grow, growing, spinning]))
        refused(self, TooGreat, unlike_ends, Rules([to_grow, (("u",), B), growing]))
        refused(self, TooGreat, unlike_ends, Rules([(("u",), B), to_grow, growing]))
        refused(self, TooLong, unlike_ends, Rules([(("u",), B), to_spin, spinning]))


class WholeTest(unittest.TestCase):
    def all_ends(self, rules, term, known):
        if term not in known:
            steps = rules.steps(term)
            found = set() if steps else {term}
            for step in steps:
                found |= self.all_ends(rules, step[2], known)
            known[term] = found
        return known[term]

    def test_one_end_for_all_terms_just_where_no_overlap_has_unlike_ends(self):
        pool = [
            "f(f(?0))>?0", "f(f(?0))>f(?0)", "g(?0,?0)>?0", "g(f(?0),?1)>g(?0,?1)", "f(g(?0,?1))>g(?1,?0)", "g(a,?0)>?0", "f(a)>a", "b>a",
            "g(?0,b)>f(?0)", "g(?0,?1)>?1", "f(b)>a", "g(?0,g(?1,?2))>g(?0,?2)",
        ]
        outcomes = [0, 0]
        for texts in itertools.combinations(pool, 2):
            rules = ruled(*texts)
            if ranks_of(rules) is None and numbers_of(rules) is None:
                continue
            found = unlike_ends(rules)
            outcomes[found is None] += 1
            if found is None:
                known = {}
                for term in small_terms(3, (0, A, B)):
                    self.assertEqual({rules.end(term)[1]}, self.all_ends(rules, term, known), (texts, term))
            else:
                lasts = {rules.walked(found[0], row)[-1] for row in found[1:]}
                self.assertEqual(2, len(lasts & self.all_ends(rules, found[0], {})))
        self.assertGreater(min(outcomes), 10, outcomes)


class OwnTest(unittest.TestCase):
    def test_nothing_is_changed_or_shared(self):
        rules = ruled(*GROUP)
        was = rules.told()
        found = overlaps(rules)
        found.clear()
        self.assertEqual(3, len(overlaps(rules)))
        found = unlike_ends(rules)
        found[1].clear()
        found[2].append(((), 0))
        self.assertEqual((read("m(m(i(?0),?0),?1)"), [((), 2)], [((0,), 1), ((), 0)]), unlike_ends(rules))
        self.assertEqual(was, rules.told())

    def test_filled_peaks_step_as_the_peaks_do(self):
        for i, path, j, peak, one, other in overlaps(ruled(*DONE)):
            filling = {blank: ("i", ("e",)) for blank in blanks(peak)}
            self.assertIn(((), i, filled(one, filling)), ruled(*DONE).steps(filled(peak, filling)))


if __name__ == "__main__":
    unittest.main()
