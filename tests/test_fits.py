import copy
import inspect
import itertools
import random
import unittest

from endwise import fits
from endwise.errors import TooGreat
from endwise.fits import fit, joint
from endwise.terms import blanks, count_parts, filled, is_whole, levels, part, paths
from helper import bush, deep, refused, small_terms, wide

A = ("a",)
B = ("b",)


class InterfaceTest(unittest.TestCase):
    def test_names_and_arguments(self):
        for name, arguments in {"fit": ["pattern", "term"], "joint": ["one", "other"]}.items():
            self.assertEqual(arguments, list(inspect.signature(getattr(fits, name)).parameters))


class FitTest(unittest.TestCase):
    def test_fits(self):
        for pattern, term, filling in (
            (A, A, {}),
            (0, A, {0: A}),
            (7, ("f", 3), {7: ("f", 3)}),
            (("f", 0), ("f", A), {0: A}),
            (("f", 0, 1), ("f", A, B), {0: A, 1: B}),
            (("f", 0, 0), ("f", A, A), {0: A}),
            (("f", 5, ("g", 5, 2)), ("f", ("h", 1), ("g", ("h", 1), B)), {5: ("h", 1), 2: B}),
            (("f", A, 999), ("f", A, deep(58)), {999: deep(58)}),
        ):
            with self.subTest((pattern, term)):
                self.assertEqual(filling, fit(pattern, term))
                self.assertIs(dict, type(fit(pattern, term)))

    def test_does_not_fit(self):
        for pattern, term in (
            (A, B), (A, ("a", A)), (("a", 0), A), (("f", 0), ("f", A, A)), (("f", 0, 1), ("f", A)), (("f", 0), ("g", A)),
            (("f", 0, 0), ("f", A, B)), (("f", 0, 0), ("f", ("g", A), ("g", B))), (("f", ("g", 0), 0), ("f", ("g", A), ("g", A))),
            (("f", A), ("f", B)), (("f", 0, A), ("f", A, B)), (("f", A, 0), ("f", B, A)), (("f", ("g", 0)), ("f", A)),
        ):
            with self.subTest((pattern, term)):
                self.assertIsNone(fit(pattern, term))

    def test_a_blank_of_the_term_is_not_filled(self):
        self.assertIsNone(fit(A, 0))
        self.assertIsNone(fit(("f", A), 0))
        self.assertIsNone(fit(("f", A), ("f", 0)))
        self.assertIsNone(fit(("f", 0, 0), ("f", 0, 1)))
        self.assertIsNone(fit(("f", 0, 0), ("f", 1, A)))
        self.assertEqual({0: 0}, fit(0, 0))
        self.assertEqual({0: 1}, fit(0, 1))
        self.assertEqual({0: 1, 1: 0}, fit(("f", 0, 1), ("f", 1, 0)))
        self.assertEqual({0: ("f", 0)}, fit(("f", 0), ("f", ("f", 0))))
        self.assertEqual({0: ("g", 0, 1), 1: 0}, fit(("f", 0, 1), ("f", ("g", 0, 1), 0)))

    def test_just_the_patterns_blanks(self):
        self.assertEqual({}, fit(("f", A), ("f", A)))
        self.assertEqual([3], sorted(fit(("f", 3, A), ("f", ("g", 0, 1), A))))

    def test_all_small_terms_by_the_words_of_the_document(self):
        patterns = small_terms(3, (0, 1), (("f", 1), ("g", 2))) + small_terms(2)
        terms = small_terms(3, (0, A), (("f", 1), ("g", 2)))
        for pattern in patterns:
            for term in terms:
                self.assertEqual(self.by_trial(pattern, term), fit(pattern, term))

    def by_trial(self, pattern, term):
        # A blank of the pattern stands somewhere, so what is put there is what stands there in the term.
        filling = {}
        for path in paths(pattern):
            if is_whole(part(pattern, path)):
                if path not in paths(term):
                    return None
                filling[part(pattern, path)] = part(term, path)
        return filling if filled(pattern, filling) == term else None

    def test_at_the_bounds_and_beyond(self):
        self.assertEqual({}, fit(deep(59), deep(59)))
        self.assertEqual({0: A}, fit(deep(59, 0), deep(59)))
        self.assertEqual({0: deep(59)}, fit(0, deep(59)))
        self.assertEqual({0: wide(1000)}, fit(0, wide(1000)))
        self.assertEqual({0: deep(59)}, fit(("f", 0), deep(60)))
        self.assertEqual({0: A}, fit(deep(60, 0), deep(60)))
        self.assertEqual({}, fit(wide(1001), wide(1001)))
        self.assertIsNone(fit(deep(60), deep(60, B)))
        refused(self, TooGreat, fit, 0, deep(60))
        refused(self, TooGreat, fit, ("f", 0, 1), ("f", A, wide(1001)))
        self.assertIsNone(fit(("f", 0, A), ("f", deep(60), B)))
        self.assertIsNone(fit(("f", 0, 0), ("f", deep(60), A)))


class JointTest(unittest.TestCase):
    def test_joined(self):
        for one, other, filling in (
            (A, A, {}),
            (0, A, {0: A}),
            (0, 0, {0: 0}),
            (0, 1, {0: 0, 1: 0}),
            (1, 0, {0: 0, 1: 0}),
            (("f", 0, B), ("f", A, 1), {0: A, 1: B}),
            (("f", 0, 1), ("f", 1, A), {0: A, 1: A}),
            (("f", 0, 1), ("f", 1, 0), {0: 0, 1: 0}),
            (("f", 3, 2), ("f", 2, 1), {1: 1, 2: 1, 3: 1}),
            (("f", 2, 1), ("f", 3, 2), {1: 1, 2: 1, 3: 1}),
            (("f", 5, 9, 7), ("f", 9, 7, 999), {5: 5, 7: 5, 9: 5, 999: 5}),
            (("f", 0, ("g", 1)), ("f", ("g", 2), 0), {0: ("g", 1), 1: 1, 2: 1}),
            (("f", 0, 1), ("f", ("g", 1), ("h", 2)), {0: ("g", ("h", 2)), 1: ("h", 2), 2: 2}),
            (("f", 0, 0, 4), ("f", ("g", 1, 2), ("g", 2, 3), 4), {0: ("g", 1, 1), 1: 1, 2: 1, 3: 1, 4: 4}),
            (("f", 0, 0), ("f", ("g", 1), ("g", A)), {0: ("g", A), 1: A}),
        ):
            for first, second in ((one, other), (other, one)):
                with self.subTest((first, second)):
                    self.assertEqual(filling, joint(first, second))
                    self.assertIs(dict, type(joint(first, second)))

    def test_blanks_that_nothing_is_asked_of_are_told_too(self):
        self.assertEqual({3: 3}, joint(("f", 3), ("f", 3)))
        self.assertEqual({3: 3, 5: A, 8: 8}, joint(("f", 3, 5, 8), ("f", 3, A, 8)))

    def test_none_where_unlike_heads_meet(self):
        for one, other in (
            (A, B), (A, ("a", 0)), (("f", 0), ("f", 0, 1)), (("f", 0), ("g", 0)), (("f", 0, 0), ("f", A, B)),
            (("f", 0, 1, 0), ("f", 1, A, B)), (("f", 0, ("g", 0)), ("f", A, ("g", B))), (("f", A, 0), ("f", B, 0)),
            (("f", 0, 0), ("f", ("g", 1), ("h", 1))), (("f", 0, 0), ("f", ("g", 1), ("g", 1, 2))),
        ):
            with self.subTest((one, other)):
                self.assertIsNone(joint(one, other))
                self.assertIsNone(joint(other, one))

    def test_none_where_a_blank_would_lie_within_its_own_term(self):
        for one, other in (
            (0, ("f", 0)), (0, ("f", A, ("g", 0))), (("f", 0, 1), ("f", ("g", 1), ("g", 0))), (("f", 0, 0), ("f", 1, ("g", 1))),
            (("f", 0, 1, 2), ("f", ("g", 1), ("g", 2), ("g", 0))), (("f", 0, 0), ("f", ("g", 1), ("g", ("g", 1)))),
            (("f", 0, 1, 0), ("f", 1, 2, ("g", 2))),
        ):
            with self.subTest((one, other)):
                self.assertIsNone(joint(one, other))
                self.assertIsNone(joint(other, one))

    def test_all_small_terms_by_the_words_of_the_document(self):
        terms = small_terms(2, (0, 1, A)) + [("g", 1, ("f", 0)), ("g", ("f", 0), 0), ("g", ("f", 1), ("f", ("f", 0)))]
        terms += [("g", ("g", 0, 1), 1), ("g", ("g", 1, 0), ("g", 0, 1)), ("f", ("f", 2)), ("g", 2, ("f", 1)), 2]
        choices = small_terms(2, (0, 1, A)) + [("f", ("f", A)), ("f", ("f", 0))]
        for one, other in itertools.product(terms, repeat=2):
            told = joint(one, other)
            tried = [filling for filling in self.fillings(one, other, choices) if filled(one, filling) == filled(other, filling)]
            if told is None:
                self.assertEqual([], tried, (one, other))
            else:
                self.is_joint(one, other, told, tried)

    def fillings(self, one, other, choices):
        met = sorted(set(blanks(one) + blanks(other)))
        return [dict(zip(met, row)) for row in itertools.product(choices, repeat=len(met))]

    def is_joint(self, one, other, told, tried):
        self.assertEqual(sorted(set(blanks(one) + blanks(other))), sorted(told))
        self.assertEqual(filled(one, told), filled(other, told), (one, other))
        for blank, term in told.items():
            # What is left of the blanks stays: so it is the filling that asks for no more than is needed.
            self.assertEqual(term, filled(term, told))
            if is_whole(term):
                self.assertEqual(term, min(each for each in told if told[each] == term))
            for filling in tried:
                self.assertEqual(filling[blank], filled(term, filling), (one, other))

    def test_by_another_way_of_joining(self):
        dice = random.Random(5)
        outcomes = {"none": 0, "joined": 0}
        for _ in range(1500):
            one, other = self.thrown(dice, 4), self.thrown(dice, 4)
            told = joint(one, other)
            self.assertEqual(joined_one_by_one(one, other), told, (one, other))
            outcomes["none" if told is None else "joined"] += 1
        self.assertGreater(min(outcomes.values()), 200)

    def thrown(self, dice, deepest):
        if deepest == 1 or dice.random() < 0.2:
            return dice.choice([0, 1, 2, 3, 4, 5, 6, 7, A])
        if dice.random() < 0.3:
            return ("f", self.thrown(dice, deepest - 1))
        return ("g", self.thrown(dice, deepest - 1), self.thrown(dice, deepest - 1))

    def test_too_great_in_levels(self):
        self.assertEqual({0: deep(59)}, joint(0, deep(59)))
        refused(self, TooGreat, joint, 0, deep(60))
        refused(self, TooGreat, joint, deep(60), 0)
        half = ("g", 0, deep(29, 1))
        self.assertEqual({0: deep(30), 1: deep(30)}, joint(("g", deep(30), deep(59)), half))
        told = joint(("g", 0, 1), ("g", deep(29, 1), deep(30)))
        self.assertEqual({0: deep(59), 1: deep(30)}, told)
        refused(self, TooGreat, joint, ("g", 0, 1), ("g", deep(29, 1), deep(31)))
        refused(self, TooGreat, joint, ("g", 0, 1), ("g", deep(59, 1), ("f", 2)))

    def test_too_great_though_only_a_part_of_the_term_is_met_as_too_great(self):
        refused(self, TooGreat, joint, 0, deep(64))
        refused(self, TooGreat, joint, 0, ("h", A, ("h", wide(1001), A)))
        # The blank 1 has 60 levels: what stands right above it has more, and so has what 0 becomes.
        refused(self, TooGreat, joint, ("g", 0, 1), ("g", ("h", A, ("f", 1)), deep(59)))
        refused(self, TooGreat, joint, ("g", 0, 1), ("g", ("h", A, ("h", 1, 1)), wide(600)))

    def test_too_great_in_parts(self):
        self.assertEqual({0: wide(1000)}, joint(0, wide(1000)))
        refused(self, TooGreat, joint, 0, wide(1001))
        told = joint(("g", 0, 1), ("g", ("h", 1, 1, 1), wide(333)))
        self.assertEqual(1000, count_parts(told[0]))
        refused(self, TooGreat, joint, ("g", 0, 1), ("g", ("h", 1, 1, 1), wide(334)))

    def test_only_the_fillings_terms_are_bounded(self):
        # The terms that become the same may be greater than any term may be told.
        self.assertEqual({0: deep(30)}, joint(deep(59, 0), deep(89)))
        self.assertEqual({0: A}, joint(deep(60, 0), deep(60)))
        self.assertEqual({}, joint(wide(1001), wide(1001)))
        told = joint(("g", 0, 0, 0), ("g", wide(400), 0, 1))
        self.assertEqual({0: wide(400), 1: wide(400)}, told)

    def test_none_goes_ahead_of_too_great(self):
        self.assertIsNone(joint(("g", 0, A), ("g", deep(60), B)))
        self.assertIsNone(joint(("g", A, 0), ("g", B, deep(60))))
        self.assertIsNone(joint(("g", 0, 1), ("g", wide(1001), ("f", 1))))
        self.assertIsNone(joint(("g", 0, 1), ("g", deep(60, 1), ("f", 0))))

    def test_terms_that_double_and_double(self):
        count = 90
        doubled = [("g", number + 1, number + 1) for number in range(count)]
        refused(self, TooGreat, joint, bush(range(count)), bush(doubled))
        self.assertIsNone(joint(bush(list(range(count)) + [A]), bush(doubled + [B])))
        self.assertIsNone(joint(bush(list(range(count)) + [count]), bush(doubled + [("f", 0)])))
        self.assertIsNone(joint(bush([count] + list(range(count))), bush([("f", 0)] + doubled)))

    def test_terms_that_double_beside_each_other(self):
        # Two rows that double, of which the one is half a step ahead: parts meet again and again.
        def four(number):
            return ("g", ("g", number, number), ("g", number, number))
        count = 60
        lefts = [number for number in range(count)] + [100 + number for number in range(count)] + [0]
        rights = [four(number + 1) for number in range(count)] + [four(101 + number) for number in range(count)]
        refused(self, TooGreat, joint, bush(lefts), bush(rights + [("g", 100, 100)]))
        self.assertIsNone(joint(bush(lefts + [A]), bush(rights + [("g", 100, 100), B])))

    def test_long_chains_of_blanks(self):
        count = 450
        chain = [("f", number + 1) for number in range(count)]
        refused(self, TooGreat, joint, bush(range(count)), bush(chain))
        refused(self, TooGreat, joint, bush(reversed(range(count))), bush(reversed(chain)))
        ring = chain[:-1] + [("f", 0)]
        self.assertIsNone(joint(bush(range(count)), bush(ring)))
        self.assertIsNone(joint(bush(reversed(range(count))), bush(reversed(ring))))
        told = joint(bush(range(59)), bush(chain[:58] + [("f", A)]))
        self.assertEqual(60, levels(told[0]))
        self.assertEqual({number: deep(59 - number) for number in range(59)}, told)
        refused(self, TooGreat, joint, bush(range(60)), bush(chain[:59] + [("f", A)]))

    def test_many_blanks_become_one(self):
        for numbers in (range(801), list(reversed(range(801)))):
            told = joint(bush(numbers[:-1]), bush(numbers[1:]))
            self.assertEqual({number: 0 for number in range(801)}, told)


def joined_one_by_one(one, other):
    """Joins by putting, again and again, a term for one blank everywhere: slow, but easy to follow."""
    met = set(blanks(one) + blanks(other))
    pairs, filling = [(one, other)], {blank: blank for blank in met}
    while pairs:
        first, second = pairs.pop(0)
        if first == second:
            continue
        if not is_whole(first) and (is_whole(second) or first[0] != second[0] or len(first) != len(second)):
            if not is_whole(second):
                return None
            first, second = second, first
        if not is_whole(first):
            pairs.extend(zip(first[1:], second[1:]))
            continue
        if is_whole(second):
            first, second = max(first, second), min(first, second)
        if first in blanks(second):
            return None
        pairs = [(filled(left, {first: second}), filled(right, {first: second})) for left, right in pairs]
        filling = {blank: filled(term, {first: second}) for blank, term in filling.items()}
    return filling


class OwnTest(unittest.TestCase):
    def test_what_is_told_is_the_askers_own(self):
        for deed in (fit, joint):
            first = deed(("f", 0, 1), ("f", A, B))
            was = copy.deepcopy(first)
            first[0] = None
            first[5] = A
            self.assertEqual(was, deed(("f", 0, 1), ("f", A, B)))


if __name__ == "__main__":
    unittest.main()
