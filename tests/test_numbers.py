import copy
import inspect
import itertools
import random
import unittest

from endwise import numbers
from endwise.errors import NoHead, NoPaper, TooGreat, TooMany
from endwise.numbers import Numbers, numbers_of
from endwise.papers import Paper
from endwise.rules import Rules
from endwise.terms import head, part_there, paths
from endwise.texts import read
from helper import ACK, SUMS, bush, deep, many_heads, refused, ruled, small_terms, strange_things, wide

A = ("a",)
B = ("b",)
F = ("f", 1)
G = ("g", 2)
# a is 2; b is 1; f is x * x + 1; g is 3 * x * y + 2 * y.
MIXED = [
    (("a", 0), [(2, ())]), (("b", 0), [(1, ())]), (F, [(1, (2,)), (1, (0,))]), (G, [(3, (1, 1)), (2, (0, 1))]),
]
# a is 1; f is x + 1; g is 2 * x + y.
PLAIN = [(("a", 0), [(1, ())]), (F, [(1, (0,)), (1, (1,))]), (G, [(2, (1, 0)), (1, (0, 1))])]


def plain_products(count):
    """For a head of so many places their sum."""
    return [(1, tuple(int(number == place) for number in range(count))) for place in range(count)] or [(1, ())]


def value_by_words(told, term, worths):
    if isinstance(term, int):
        return worths.get(term, 1)
    total = 0
    for number, powers in dict(told)[head(term)]:
        for place, power in zip(term[1:], powers):
            number *= value_by_words(told, place, worths) ** power
        total += number
    return total


def times(one, other):
    made = {}
    for powers, number in one.items():
        for more, often in other.items():
            key = tuple(sorted(powers + more))
            made[key] = made.get(key, 0) + number * often
    return made


def sum_by_words(told, term, leaf):
    """A sum of products as a dict from the sorted blanks of a product, each as often as its power, to its number."""
    if isinstance(term, int):
        return leaf(term)
    total = {}
    for number, powers in dict(told)[head(term)]:
        product = {(): number}
        for place, power in zip(term[1:], powers):
            for _ in range(power):
                product = times(product, sum_by_words(told, place, leaf))
        for key, found in product.items():
            total[key] = total.get(key, 0) + found
    return total


def form_by_words(told, term):
    made = sum_by_words(told, term, lambda blank: {(blank,): 1})
    return sorted((tuple((blank, key.count(blank)) for blank in sorted(set(key))), number) for key, number in made.items())


def falls_by_words(told, one, other):
    """1 + z is put in already where the blanks stand, not in the forms."""
    upper = sum_by_words(told, one, lambda blank: {(): 1, (blank,): 1})
    lower = sum_by_words(told, other, lambda blank: {(): 1, (blank,): 1})
    return all(upper.get(key, 0) >= lower[key] for key in lower) and upper[()] > lower[()]


class InterfaceTest(unittest.TestCase):
    def test_names_and_arguments(self):
        self.assertEqual(["products"], list(inspect.signature(Numbers).parameters))
        self.assertEqual(["rules"], list(inspect.signature(numbers.numbers_of).parameters))
        told = {
            "told": [], "value": ["term", "worths"], "form": ["term"], "falls": ["one", "other"], "lets": ["rules"], "count": ["term"],
        }
        for name, arguments in told.items():
            self.assertEqual(["self"] + arguments, list(inspect.signature(getattr(Numbers, name)).parameters))
        self.assertIsNone(inspect.signature(Numbers.value).parameters["worths"].default)

    def test_under_paper(self):
        self.assertEqual((Paper,), Numbers.__bases__)
        self.assertIsInstance(Numbers([]), Paper)


class MadeTest(unittest.TestCase):
    def test_as_handed_in(self):
        for told in ([], MIXED, MIXED[::-1], PLAIN, [(("z", 0), [(7, ())]), (("a", 0), [(7, ())])], [(F, [(1, (1,)), (5, (0,))])]):
            found = Numbers(told).told()
            self.assertEqual(told, found)
            self.assertIs(list, type(found))
            for one in found:
                self.assertEqual([tuple, tuple, list], [type(one), type(one[0]), type(one[1])])

    def test_sixty_heads_and_no_more(self):
        listed = [(found, plain_products(found[1])) for found in many_heads(61)]
        self.assertEqual(listed[:60], Numbers(listed[:60]).told())
        refused(self, NoPaper, Numbers, listed)
        refused(self, NoPaper, Numbers, listed[:1] * 2000)

    def test_one_to_forty_products(self):
        powers = list(itertools.product(range(3), repeat=4))[::-1]
        listed = [(number + 1, found) for number, found in enumerate(powers)]
        self.assertEqual([(("h", 4), listed[:40])], Numbers([(("h", 4), listed[:40])]).told())
        refused(self, NoPaper, Numbers, [(("h", 4), listed[:41])])
        refused(self, NoPaper, Numbers, [(("h", 4), listed)])
        self.assertEqual([(("a", 0), [(1, ())])], Numbers([(("a", 0), [(1, ())])]).told())
        refused(self, NoPaper, Numbers, [(("a", 0), [])])
        refused(self, NoPaper, Numbers, [(("h", 4), [])])

    def test_numbers_from_1_to_10_to_the_30th(self):
        for number in (1, 2, 10 ** 30 - 1, 10 ** 30):
            self.assertEqual(number, Numbers([(("a", 0), [(number, ())])]).value(A))
            self.assertEqual([(F, [(number, (1,))])], Numbers([(F, [(number, (1,))])]).told())
        for number in (0, -1, 10 ** 30 + 1, 10 ** 31, 10 ** 299, True, False, None, "1", (1,), 1j):
            refused(self, NoPaper, Numbers, [(("a", 0), [(number, ())])])
            refused(self, NoPaper, Numbers, [(F, [(1, (1,)), (number, (0,))])])

    def test_powers_from_0_to_2(self):
        for power in (1, 2):
            self.assertEqual([(F, [(1, (power,))])], Numbers([(F, [(1, (power,))])]).told())
        self.assertEqual([(F, [(1, (0,)), (1, (1,))])], Numbers([(F, [(1, (0,)), (1, (1,))])]).told())
        for power in (3, 4, -1, 10 ** 200, True, False, None, "1", [1], (1,)):
            refused(self, NoPaper, Numbers, [(F, [(1, (power,))])])
            refused(self, NoPaper, Numbers, [(F, [(1, (1,)), (1, (power,))])])
            refused(self, NoPaper, Numbers, [(G, [(1, (1, 1)), (1, (power, 0))])])
            refused(self, NoPaper, Numbers, [(G, [(1, (1, 1)), (1, (0, power))])])

    def test_a_power_for_each_place(self):
        for found, powers in ((F, ()), (F, (1, 1)), (G, (1,)), (G, (1, 1, 1)), (("a", 0), (1,)), (("a", 0), (0,)), (F, [1]), (F, 1)):
            refused(self, NoPaper, Numbers, [(found, [(1, powers)])])
        self.assertEqual(9, len(Numbers([(("h", 9), [(1, (1,) * 9)])]).told()[0][1][0][1]))

    def test_no_powers_twice(self):
        refused(self, NoPaper, Numbers, [(("a", 0), [(1, ()), (2, ())])])
        refused(self, NoPaper, Numbers, [(F, [(1, (1,)), (1, (1,))])])
        refused(self, NoPaper, Numbers, [(F, [(1, (1,)), (1, (0,)), (2, (0,))])])
        Numbers([(G, [(1, (1, 2)), (1, (2, 1))])])

    def test_for_each_place_a_power_from_1_on(self):
        for found, powers in ((F, [(0,)]), (G, [(1, 0)]), (G, [(0, 1)]), (G, [(0, 1), (0, 2), (0, 0)]), (G, [(2, 0), (1, 0)])):
            refused(self, NoPaper, Numbers, [(found, [(1, row) for row in powers])])
        Numbers([(G, [(1, (1, 0)), (1, (0, 1))])])
        Numbers([(G, [(1, (0, 0)), (1, (1, 2))])])

    def test_unlike_heads(self):
        refused(self, NoPaper, Numbers, [MIXED[0], MIXED[0]])
        refused(self, NoPaper, Numbers, MIXED + [(("a", 0), [(5, ())])])
        Numbers(MIXED + [(("a", 1), [(5, (1,))])])

    def test_what_is_no_list(self):
        for thing in strange_things() + [0, "a", tuple(MIXED), (), dict(enumerate(MIXED)), {F: 0}, Numbers([]), MIXED[0]]:
            if thing != [] or not isinstance(thing, list):
                with self.subTest(repr(thing)):
                    refused(self, NoPaper, Numbers, thing)

    def test_what_is_none_of_its_things(self):
        odd = [
            0, "a", F, (F,), (F, [(1, (1,))], 0), [F, [(1, (1,))]], (F, ((1, (1,)),)), (F, (1, (1,))), (F, {(1,): 1}), (F, 1),
            (["f", 1], [(1, (1,))]), (("f", 10), [(1, (1,) * 10)]), (("F", 1), [(1, (1,))]), (("f", True), [(1, (1,))]), ("f", [(1, (1,))]),
        ]
        for thing in strange_things() + odd:
            with self.subTest(repr(thing)):
                refused(self, NoPaper, Numbers, [thing])
                refused(self, NoPaper, Numbers, MIXED + [thing])
                refused(self, NoPaper, Numbers, [thing] + MIXED)

    def test_what_is_no_head_no_products_and_no_product(self):
        for thing in strange_things() + [0, 5, "a", "ab", A, ("f", 1, 1)]:
            with self.subTest(repr(thing)):
                refused(self, NoPaper, Numbers, [(thing, [(1, (1,))])])
                refused(self, NoPaper, Numbers, [(F, thing)])
                refused(self, NoPaper, Numbers, [(F, [(1, (1,)), thing])])
                refused(self, NoPaper, Numbers, [(F, [thing])])
                refused(self, NoPaper, Numbers, [(F, [(1, (1,)), (thing, thing)])])
                refused(self, NoPaper, Numbers, [(F, [(1, thing)])])
        refused(self, NoPaper, Numbers, [(F, [[1, (1,)]])])
        refused(self, NoPaper, Numbers, [(F, [(1, (1,), 0)])])
        refused(self, NoPaper, Numbers, [(F, [(1,)])])


class ValueTest(unittest.TestCase):
    def test_values(self):
        paper = Numbers(MIXED)
        for text, worths, told in (
            ("a", None, 2), ("b", None, 1), ("?0", None, 1), ("?0", {}, 1), ("?0", {0: 7}, 7), ("?0", {1: 7}, 1), ("f(a)", None, 5),
            ("f(f(b))", None, 5), ("f(?3)", {3: 10}, 101), ("g(a,b)", None, 8), ("g(b,a)", None, 10), ("g(?0,?1)", {0: 4, 1: 5}, 70),
            ("g(?0,?0)", {0: 10 ** 30}, 3 * 10 ** 60 + 2 * 10 ** 30), ("g(f(?0),?1)", {1: 3, 0: 2}, 51), ("g(?0,?1)", {0: 4}, 14),
        ):
            self.assertEqual(told, paper.value(read(text), worths), text)
            self.assertIs(int, type(paper.value(read(text), worths=worths)))
        self.assertEqual(1, Numbers([]).value(5))

    def test_small_terms_by_the_words_of_the_document(self):
        for told, leaves in ((MIXED, (0, 1, A, B)), (PLAIN, (0, 7, A))):
            paper = Numbers(told)
            for term in small_terms(3, leaves):
                for worths in ({}, {0: 2}, {1: 3, 7: 4}, {0: 5, 1: 10 ** 30, 7: 9}):
                    self.assertEqual(value_by_words(told, term, worths), paper.value(term, worths))

    def test_at_least_1_and_not_less_than_any_place(self):
        paper = Numbers(MIXED)
        for term in small_terms(3, (0, A, B)):
            value = paper.value(term)
            self.assertGreaterEqual(value, 1)
            if isinstance(term, tuple):
                self.assertTrue(all(value >= paper.value(place) for place in term[1:]))

    def test_no_head(self):
        paper = Numbers(PLAIN)
        for term in (B, ("f", B), ("g", A, ("f", B)), ("f",), ("f", A, A), ("g", 0, ("g", A)), ("a", A)):
            for deed in (paper.value, paper.form, paper.count):
                refused(self, NoHead, deed, term)
        for deed in (Numbers([]).value, Numbers([]).form, Numbers([]).count):
            refused(self, NoHead, deed, A)

    def test_three_hundred_figures_and_no_more(self):
        most = 10 ** 30
        paper = Numbers([(F, [(most, (1,)), (most - 1, (0,))]), (("a", 0), [(most - 1, ())]), (("s", 1), [(1, (1,)), (1, (0,))])])
        term = deep(9)
        self.assertEqual(10 ** 300 - 1, paper.value(term))
        self.assertEqual(10 ** 300 - 2, paper.count(term))
        self.assertEqual([((), 10 ** 300 - 1)], paper.form(term))
        for deed in (paper.value, paper.count, paper.form):
            refused(self, TooGreat, deed, ("s", term))
            refused(self, TooGreat, deed, ("f", term))
        paper = Numbers([(F, [(most, (1,))])])
        self.assertEqual(10 ** 300 - 10 ** 270, paper.value(deep(9, 0), {0: most - 1}))
        refused(self, TooGreat, paper.value, deep(9, 0), {0: most})
        self.assertEqual(10 ** 270, paper.value(deep(9, 0)))
        refused(self, TooGreat, paper.value, deep(10, 0))
        self.assertEqual([(((0, 1),), 10 ** 270)], paper.form(deep(9, 0)))
        refused(self, TooGreat, paper.form, deep(10, 0))

    def test_what_grows_without_measure(self):
        paper = Numbers([(F, [(1, (2,))]), (("a", 0), [(2, ())]), (("b", 0), [(1, ())]), (("w", 9), [(1, (2,) * 9)])])
        for deed in (paper.value, paper.form, paper.count):
            refused(self, TooGreat, deed, deep(59))
            refused(self, TooGreat, deed, ("w",) + (deep(8),) * 9)
        self.assertEqual(1, paper.value(deep(59, B)))
        self.assertEqual(0, paper.count(deep(59, B)))
        self.assertEqual([((), 1)], paper.form(deep(59, B)))
        # 2 to the 512th has 155 figures, its square 309.
        self.assertEqual(2 ** 512, paper.value(deep(9)))
        refused(self, TooGreat, paper.value, deep(10))

    def test_no_head_goes_first(self):
        paper = Numbers([(F, [(1, (2,))]), (("a", 0), [(2, ())]), (G, [(1, (1, 1))]), (("h", 9), plain_products(9))])
        great = deep(40)
        many = bush(range(101))
        for term in (("g", great, B), ("g", B, great), ("t", great), ("g", many, B), ("f", ("g", ("g", B, great), many))):
            for deed in (paper.value, paper.form, paper.count):
                refused(self, NoHead, deed, term)

    def test_great_terms(self):
        found = [(("w", count), plain_products(count)) for count in range(10)]
        paper = Numbers(found + [(("a", 0), [(1, ())]), (F, [(1, (1,)), (1, (0,))])])
        self.assertEqual(60, paper.value(deep(59)))
        # What lies beyond the bounds is not refused: no term is told here.
        self.assertEqual(61, paper.value(deep(60)))
        self.assertEqual([((), 61)], paper.form(deep(60)))
        self.assertEqual([(((0, 1),), 1), ((), 80)][::-1], paper.form(deep(80, 0)))
        for count in (1000, 1001):
            leaves = [path for path in paths(wide(count)) if len(part_there(wide(count), path)) == 1]
            self.assertEqual(len(leaves), paper.value(wide(count)))
        self.assertIs(True, paper.falls(deep(80), deep(79)))


class FormTest(unittest.TestCase):
    def test_forms(self):
        paper = Numbers(MIXED)
        for text, told in (
            ("?3", [(((3, 1),), 1)]),
            ("a", [((), 2)]),
            ("f(a)", [((), 5)]),
            ("f(?3)", [((), 1), (((3, 2),), 1)]),
            ("g(?1,?0)", [(((0, 1),), 2), (((0, 1), (1, 1)), 3)]),
            ("g(?0,?0)", [(((0, 1),), 2), (((0, 2),), 3)]),
            ("g(f(?1),?0)", [(((0, 1),), 5), (((0, 1), (1, 2)), 3)]),
            ("f(f(?0))", [((), 2), (((0, 2),), 2), (((0, 4),), 1)]),
            ("g(?10,f(?9))", [((), 2), (((9, 2),), 2), (((9, 2), (10, 1)), 3), (((10, 1),), 3)]),
        ):
            found = paper.form(read(text))
            self.assertEqual(told, found)
            self.assertIs(list, type(found))
            self.assertTrue(all(type(one) is type(one[0]) is tuple for one in found))
        self.assertEqual([(((3, 1),), 1)], Numbers([]).form(3))

    def test_small_terms_by_the_words_of_the_document(self):
        for told, leaves in ((MIXED, (0, 1, A)), (PLAIN, (0, 12, A))):
            paper = Numbers(told)
            for term in small_terms(3, leaves):
                form = paper.form(term)
                self.assertEqual(form_by_words(told, term), form)
                self.assertEqual(sorted(form), form)
                self.assertEqual(sum(number for powers, number in form), paper.value(term))

    def test_powers_that_come_to_twelve_and_no_more(self):
        paper = Numbers([(F, [(1, (2,))]), (G, [(1, (1, 1))]), (("c", 1), [(1, (1,)), (1, (0,))])])
        three = ("g", ("f", 0), 0)
        six = ("f", three)
        self.assertEqual([(((0, 12),), 1)], paper.form(("f", six)))
        refused(self, TooMany, paper.form, ("g", ("f", six), 0))
        refused(self, TooMany, paper.form, ("g", ("f", six), 1))
        refused(self, TooMany, paper.form, ("f", ("g", six, 1)))
        self.assertEqual(13, len(paper.form(("f", ("f", ("g", ("f", ("c", 0)), ("c", 0)))))))
        refused(self, TooMany, paper.form, ("g", ("c", 0), ("f", ("f", ("g", ("f", ("c", 0)), ("c", 0))))))
        product = 0
        for blank in range(1, 12):
            product = ("g", product, blank)
        self.assertEqual([(tuple((blank, 1) for blank in range(12)), 1)], paper.form(product))
        refused(self, TooMany, paper.form, ("g", product, 12))
        refused(self, TooMany, paper.form, ("g", product, 5))
        # The value is asked for all the same.
        self.assertEqual(1, paper.value(("g", product, 5)))
        self.assertEqual(2 ** 13, paper.value(("g", product, 5), dict.fromkeys(range(12), 2)))

    def test_a_hundred_products_and_no_more(self):
        found = [(("t", count), plain_products(count)) for count in range(1, 10)]
        paper = Numbers(found + [(G, [(1, (1, 1))]), (F, [(1, (1,)), (1, (0,))])])
        hundred = bush(range(100))
        self.assertEqual([(((blank, 1),), 1) for blank in range(100)], paper.form(hundred))
        refused(self, TooMany, paper.form, bush(range(101)))
        self.assertEqual(100, len(paper.form(("f", bush(range(99))))))
        refused(self, TooMany, paper.form, ("f", hundred))
        self.assertEqual(100, len(paper.form(("t", hundred, 5))))
        refused(self, TooMany, paper.form, ("t", hundred, 100))
        # Ten times ten, and ten times eleven.
        self.assertEqual(100, len(paper.form(("g", bush(range(10)), bush(range(10, 20))))))
        refused(self, TooMany, paper.form, ("g", bush(range(10)), bush(range(10, 21))))
        # Products that become the same are one.
        self.assertEqual(91, len(paper.form(("g", bush(range(13)), bush(range(13))))))
        refused(self, TooMany, paper.form, ("g", bush(range(14)), bush(range(14))))
        self.assertEqual(100 * 101, paper.value(("g", hundred, ("f", hundred))))

    def test_too_great_goes_ahead_of_too_many(self):
        paper = Numbers([(F, [(1, (2,)), (1, (0,))]), (("m", 1), [(10 ** 30, (1,))]), (G, [(1, (1, 1))])])
        many = 0
        for _ in range(13):
            many = ("g", many, 0)
        refused(self, TooMany, paper.form, many)
        for _ in range(10):
            many = ("m", many)
        refused(self, TooGreat, paper.form, many)
        refused(self, TooMany, paper.form, many[1])
        refused(self, TooGreat, paper.form, deep(59, 0))
        refused(self, TooMany, paper.form, deep(4, 0))


class FallsTest(unittest.TestCase):
    def test_falls(self):
        paper = Numbers(PLAIN)
        for one, other, told in (
            ("f(?0)", "?0", True), ("?0", "?0", False), ("?0", "a", False), ("f(?0)", "a", True), ("a", "f(a)", False),
            ("f(f(?0))", "f(?0)", True), ("f(?0)", "f(?0)", False), ("f(?0)", "?1", False), ("f(a)", "?0", False), ("f(f(a))", "f(a)", True),
            ("g(?0,?1)", "?0", True), ("g(?0,?1)", "?1", True), ("g(?0,?1)", "g(?1,?0)", False), ("g(?0,f(?1))", "g(?0,?1)", True),
            ("g(f(?0),?1)", "f(g(?0,?1))", True), ("g(?0,f(?1))", "f(g(?0,?1))", False), ("g(?0,?0)", "f(?0)", True), ("a", "a", False),
        ):
            self.assertIs(told, paper.falls(read(one), read(other)), (one, other))

    def test_one_and_z(self):
        # x * x is not greater than x where x is 1; with 1 + z it has more of each product but as much without z.
        paper = Numbers([(F, [(1, (2,))]), (G, [(1, (1, 1))]), (("s", 1), [(1, (1,)), (1, (0,))]), (("d", 1), [(2, (1,))])])
        for one, other, told in (
            ("f(?0)", "?0", False), ("s(f(?0))", "?0", True), ("f(s(?0))", "s(?0)", True), ("f(s(?0))", "s(f(?0))", True),
            ("s(f(?0))", "d(?0)", False), ("s(s(f(?0)))", "d(?0)", True), ("f(d(?0))", "d(f(?0))", True), ("d(f(?0))", "f(d(?0))", False),
            ("g(s(?0),s(?1))", "s(g(?0,?1))", True), ("d(?0)", "s(?0)", False), ("d(d(?0))", "s(s(?0))", True), ("s(?0)", "d(?0)", False),
            ("s(s(f(?0)))", "d(d(?0))", False), ("s(s(s(f(?0))))", "d(d(?0))", False), ("f(f(s(?0)))", "f(s(f(?0)))", True),
        ):
            self.assertIs(told, paper.falls(read(one), read(other)), (one, other))

    def test_the_numbers_of_products_of_z(self):
        # p is x * y, q is x + y, t is 3 * x, s is x + 1: cubes and squares, to the very number of each product.
        paper = Numbers([
            (("p", 2), [(1, (1, 1))]), (("q", 2), [(1, (1, 0)), (1, (0, 1))]), (("t", 1), [(3, (1,))]), (("s", 1), [(1, (1,)), (1, (0,))]),
        ])
        square, cube, fourth = "p(?0,?0)", "p(?0,p(?0,?0))", "p(p(?0,?0),p(?0,?0))"
        for one, other, told in (
            (f"q({cube},t(?0))", f"t({square})", True), (cube, f"t({square})", False), (f"q({cube},q(?0,?0))", f"t({square})", False),
            (f"q({cube},t(?0))", f"s(t({square}))", False), (f"q({cube},s(t(?0)))", f"s(t({square}))", True),
            (f"q({cube},t(t(?0)))", f"q(t({square}),?0)", True), (f"q({cube},t(t(?0)))", f"q(t({square}),{square})", False),
            (f"q({fourth},q(t(t(?0)),t({square})))", f"t(t({square}))", True), (f"q({fourth},t(t(?0)))", f"t(q({square},{square}))", True),
            (f"q({fourth},q(t(t(?0)),q({square},{square})))", f"t(t({square}))", False), (f"q({fourth},t(t(?0)))", f"t(t({square}))", False),
            (f"q({fourth},q({square},s(?0)))", f"q({cube},?0)", True), (f"q({fourth},{square})", f"q({cube},{cube})", False),
        ):
            self.assertIs(told, paper.falls(read(one), read(other)), (one, other))
            self.assertIs(told, falls_by_words(paper.told(), read(one), read(other)), (one, other))

    def test_small_terms_by_the_words_of_the_document(self):
        terms = small_terms(2, (0, 1, A, B)) + [read(text) for text in (
            "f(f(a))", "f(f(?0))", "f(g(?0,?1))", "g(f(?0),?1)", "g(?0,f(?1))", "g(g(?0,?1),a)", "g(a,g(?0,b))", "f(f(f(b)))",
            "g(f(a),f(b))", "g(g(?0,?1),?2)", "g(?0,g(?1,?2))", "f(g(a,f(?0)))", "g(g(a,b),g(b,a))",
        )]
        square = [(("a", 0), [(1, ())]), (("b", 0), [(3, ())]), (F, [(1, (1,)), (1, (2,))]), (G, [(1, (2, 0)), (1, (1, 1)), (2, (0, 1))])]
        for told in (MIXED, PLAIN + [(("b", 0), [(2, ())])], square):
            paper = Numbers(told)
            fell = 0
            for one, other in itertools.product(terms, repeat=2):
                expected = falls_by_words(told, one, other)
                self.assertIs(expected, paper.falls(one, other), (told, one, other))
                fell += expected
            self.assertTrue(200 < fell < len(terms) ** 2 - 200, fell)

    def test_thrown_papers_by_the_words_of_the_document(self):
        dice = random.Random(5)
        terms = small_terms(2, (0, 1, A)) + [read(text) for text in ("f(g(?0,?1))", "g(f(?0),?1)", "g(?0,f(?1))", "f(f(?0))")]
        fell = 0
        for _ in range(60):
            told = [(found, self.thrown(dice, found[1])) for found in (("a", 0), F, G)]
            paper = Numbers(told)
            self.assertEqual(told, paper.told())
            for _ in range(20):
                one, other = dice.choice(terms), dice.choice(terms)
                expected = falls_by_words(told, one, other)
                self.assertIs(expected, paper.falls(one, other))
                self.assertEqual(form_by_words(told, one), paper.form(one))
                fell += expected
        self.assertTrue(100 < fell < 1100, fell)

    def thrown(self, dice, count):
        while True:
            powers = list(itertools.product(range(3), repeat=count))
            chosen = dice.sample(powers, dice.randint(1, min(3, len(powers))))
            if all(any(row[place] for row in chosen) for place in range(count)):
                return [(dice.randint(1, 3), row) for row in chosen]

    def test_so_the_value_is_greater_whatever_the_worths(self):
        paper = Numbers(MIXED)
        terms = small_terms(2, (0, 1, A))
        for one, other in itertools.product(terms, repeat=2):
            if paper.falls(one, other):
                for first, second in itertools.product((1, 2, 9, 10 ** 30), repeat=2):
                    worths = {0: first, 1: second}
                    self.assertGreater(paper.value(one, worths), paper.value(other, worths))

    def test_twelve_blanks_in_a_product(self):
        paper = Numbers([(G, [(1, (1, 1))]), (("s", 1), [(1, (1,)), (1, (0,))])])
        eleven = 0
        for blank in range(1, 11):
            eleven = ("g", eleven, blank)
        twelve = ("g", eleven, 11)
        for one, other, told in (
            (("s", twelve), twelve, True), (twelve, ("s", twelve), False), (("g", eleven, ("s", 11)), twelve, True), (twelve, twelve, False),
            (("s", twelve), ("g", eleven, ("s", 11)), False), (("s", ("g", eleven, ("s", 11))), ("s", twelve), True), (twelve, eleven, False),
            (("s", twelve), ("g", eleven, 12), False), (("g", eleven, ("s", 11)), ("s", twelve), False),
            (("g", eleven, ("s", ("s", 11))), ("s", twelve), True), (("s", twelve), eleven, True),
        ):
            self.assertIs(told, paper.falls(one, other), (one, other))
            self.assertIs(told, falls_by_words(paper.told(), one, other))

    def test_refusals_of_the_forms_the_ones_first(self):
        paper = Numbers([(F, [(1, (2,))]), (("m", 1), [(10 ** 30, (2,))]), (("a", 0), [(2, ())])])
        none, great, many, fine = B, ("m", ("m", ("m", ("m", 0)))), deep(4, 0), A
        refusals = {none: NoHead, great: TooGreat, many: TooMany}
        for one, other in itertools.product((none, great, many, fine), repeat=2):
            if one != fine or other != fine:
                refused(self, refusals[one] if one != fine else refusals[other], paper.falls, one, other)
        self.assertIs(False, paper.falls(fine, fine))


class LetsTest(unittest.TestCase):
    def test_lets(self):
        paper = Numbers([
            (("add", 2), [(2, (1, 0)), (1, (0, 1))]), (("mul", 2), [(3, (1, 1)), (1, (1, 0)), (1, (0, 1))]), (("n", 0), [(1, ())]),
            (("s", 1), [(1, (1,)), (1, (0,))]),
        ])
        self.assertIs(True, paper.lets(ruled(*SUMS[:2])))
        self.assertIs(False, paper.lets(ruled("add(?0,?1)>add(?1,?0)")))
        self.assertIs(False, paper.lets(ruled(SUMS[0], "n>n")))
        self.assertIs(False, paper.lets(ruled("n>n", SUMS[0])))
        self.assertIs(True, paper.lets(Rules([])))
        self.assertIs(True, Numbers([]).lets(Rules([])))
        self.assertEqual(
            all(falls_by_words(paper.told(), left, right) for left, right in ruled(*SUMS).told()), paper.lets(ruled(*SUMS)),
        )
        self.assertIs(True, paper.lets(Rules(ruled(SUMS[0]).told() * 40)))

    def test_false_at_the_first_that_does_not_fall_with_the_refusals_until_then(self):
        paper = Numbers([(F, [(1, (2,))]), (("m", 1), [(10 ** 30, (2,))]), (("s", 1), [(1, (1,)), (1, (0,))])])
        falls, stays, none, great, many = "s(?0)>?0", "s(?0)>s(?0)", "s(?0)>a", "m(m(m(m(?0))))>?0", "s(?0)>f(f(f(f(?0))))"
        for odd, refusal in ((none, NoHead), (great, TooGreat), (many, TooMany)):
            refused(self, refusal, paper.lets, ruled(odd))
            refused(self, refusal, paper.lets, ruled(falls, odd, stays))
            refused(self, refusal, paper.lets, ruled(odd, stays, none))
            self.assertIs(False, paper.lets(ruled(stays, odd)))
            self.assertIs(False, paper.lets(ruled(falls, stays, odd)))
        refused(self, NoHead, Numbers([]).lets, ruled("a>a"))


class CountTest(unittest.TestCase):
    def test_count(self):
        paper = Numbers(MIXED)
        for text, told in (("?5", 0), ("b", 0), ("a", 1), ("f(a)", 4), ("g(a,b)", 7), ("g(?0,?1)", 4), ("f(?7)", 1)):
            self.assertEqual(told, paper.count(read(text)))
        for term in small_terms(3, (0, A, B)):
            self.assertEqual(paper.value(term) - 1, paper.count(term))


def longest_row(rules, term, known):
    if term not in known:
        known[term] = max([1 + longest_row(rules, step[2], known) for step in rules.steps(term)], default=0)
    return known[term]


class NumbersOfTest(unittest.TestCase):
    def test_numbers_of(self):
        add, n, s = ("add", 2), ("n", 0), ("s", 1)
        for texts, told in (
            ([], []),
            (["a>b"], [(("a", 0), [(2, ())]), (("b", 0), [(1, ())])]),
            (["b>a"], [(("a", 0), [(1, ())]), (("b", 0), [(2, ())])]),
            (["f(?0)>?0"], [(F, [(2, (1,))])]),
            (["f(?0)>h(?0)", "h(?0)>?0", "i(?0)>f(?0)"], [(F, [(1, (0,)), (2, (1,))]), (("h", 1), [(2, (1,))]), (("i", 1), [(2, (0,)), (2, (1,))])]),
            (["f(a)>a"], [(("a", 0), [(1, ())]), (F, [(2, (1,))])]),
            (["g(?0,?1)>g(?1)"], [(("g", 1), [(1, (1,))]), (G, [(1, (1, 0)), (1, (0, 1))])]),
            (["a>f(b)"], [(("a", 0), [(2, ())]), (("b", 0), [(1, ())]), (F, [(1, (1,))])]),
            (SUMS[:2], [(add, [(2, (1, 0)), (1, (0, 1))]), (n, [(1, ())]), (s, [(1, (0,)), (1, (1,))])]),
            (["g(?0,f(?1))>f(g(?0,?1))"], [(F, [(1, (0,)), (1, (1,))]), (G, [(1, (1, 0)), (2, (0, 1))])]),
        ):
            with self.subTest(texts):
                found = numbers_of(ruled(*texts))
                self.assertIs(Numbers, type(found))
                self.assertEqual(told, found.told())
                self.assertIs(True, found.lets(ruled(*texts)))

    def test_none(self):
        for texts in (["a>a"], ["a>b", "b>a"], ["f(?0)>f(f(?0))"], ["g(?0,?1)>g(?1,?0)"], ACK, ["a>b", "b>c", "c>d"], SUMS[2:]):
            self.assertIsNone(numbers_of(ruled(*texts)), texts)
        # Four would do where three is the most; and here three does.
        self.assertEqual([3, 2, 1], [listed[0][0] for found, listed in numbers_of(ruled("a>b", "b>c")).told()])

    def rows(self, found):
        first = range(1, 4) if found[1] == 0 else range(3)
        return itertools.product(first, *[range(1, 3)] * found[1])

    def paper(self, found, row):
        units = [tuple(int(number == place) for number in range(found[1])) for place in range(-1, found[1])]
        return (found, [(number, powers) for number, powers in zip(row, units) if number])

    def test_the_first_of_all_choices(self):
        pool = [
            "f(?0)>g(?0,?0)", "g(?0,?1)>f(?1)", "g(f(?0),?1)>g(?0,f(?1))", "a>b", "f(a)>b", "g(?0,?1)>f(?0)", "g(a,?0)>f(?0)",
            "b>f(a)", "g(?0,?1)>?0", "f(f(?0))>f(?0)", "g(f(?0),?1)>f(g(?0,?1))", "g(?0,f(?1))>f(g(?0,?1))", "f(f(a))>g(a,b)",
        ]
        outcomes = {"none": 0, "found": 0}
        for texts in itertools.chain(itertools.combinations(pool, 1), itertools.combinations(pool, 2)):
            rules = ruled(*texts)
            heads = sorted(rules.heads_of())
            expected = None
            for rows in itertools.product(*map(self.rows, heads)):
                told = [self.paper(found, row) for found, row in zip(heads, rows)]
                if all(falls_by_words(told, left, right) for left, right in rules.told()):
                    expected = told
                    break
            found = numbers_of(rules)
            self.assertEqual(expected, found and found.told(), texts)
            outcomes["found" if found else "none"] += 1
        self.assertGreater(min(outcomes.values()), 10, outcomes)

    def test_three_thousand_choices_and_no_more(self):
        # Six heads of three choices and two places: 2916; five and four places: 3888.
        self.assertIsNone(numbers_of(ruled("a>a", "b>f(c)", "d>f(c)")))
        self.assertIsNone(numbers_of(ruled("a>a", "b>b", "c>c", "d>d", "f(?0)>f(?0)", "h(?0)>h(?0)")))
        refused(self, TooMany, numbers_of, ruled("a>a", "b>b", "c>c", "f(?0,?1)>f(?0,?1)", "h(?0,?1)>h(?0,?1)"))
        # Seven heads without places: 2187; eight: 6561.
        self.assertIsNone(numbers_of(ruled("a>a", "b>c", "d>e", "f>g")))
        refused(self, TooMany, numbers_of, ruled("a>a", "b>c", "d>e", "f>g", "h>h"))
        # A head of nine places: 1536; another one: 4608.
        nine = "w(?0,?1,?2,?3,?4,?5,?6,?7,?8)"
        self.assertEqual([(("w", 9), plain_products(9))], numbers_of(ruled(f"{nine}>?8")).told())
        refused(self, TooMany, numbers_of, ruled(f"{nine}>a"))
        # Three of two, one and four places: 27 * 128 is 3456; less one place: 1728.
        self.assertEqual(3, len(numbers_of(ruled("h(?0,?1,?2)>?0", "g(?0,?1)>?0", "f(?0)>?0")).told()))
        refused(self, TooMany, numbers_of, ruled("h(?0,?1,?2,?3)>?0", "g(?0,?1)>?0", "f(?0)>?0"))

    def test_the_greatest_numbers_of_the_rows(self):
        self.assertEqual([(("a", 0), [(3, ())]), (("b", 0), [(2, ())]), (("c", 0), [(1, ())])], numbers_of(ruled("a>b", "b>c")).told())
        self.assertEqual([2, 2], [number for number, powers in numbers_of(ruled("i(?0)>f(?0)", "f(?0)>h(?0)", "h(?0)>?0")).told()[2][1]])

    def test_too_many_goes_ahead_of_all(self):
        many = [f"n{letter}>n{letter}" for letter in "abcdefgh"]
        refused(self, TooMany, numbers_of, ruled(*many))
        great = Rules([(wide(1000), wide(999))])
        refused(self, TooMany, numbers_of, great)
        heads = bush([("n" + one + two,) for one in "abcdefghij" for two in "abcdefghij"])
        refused(self, TooMany, numbers_of, Rules([(heads, heads)] * 40))

    def test_with_the_refusals_of_lets(self):
        # The least choice leaves the first number out: so the form has a hundred products, and does not fall.
        # The next one has one more.
        def row(count):
            term = 0
            for blank in range(1, count):
                term = ("g", blank, term)
            return term

        # Terms of sixty levels have no hundred blanks in rows of g.
        def tree(first, count):
            if count == 1:
                return first
            half = count // 2
            return ("g", tree(first, half), tree(first + half, count - half))

        refused(self, TooMany, numbers_of, Rules([(tree(0, 100), tree(0, 100))]))
        refused(self, TooMany, numbers_of, Rules([(tree(0, 101), 5)]))
        self.assertIsNone(numbers_of(Rules([(tree(0, 99), tree(0, 99))])))
        self.assertIsNone(numbers_of(Rules([(("g", 0, 1), ("g", 0, 1)), (tree(0, 101), tree(0, 101))])))
        self.assertEqual([(G, [(1, (1, 0)), (1, (0, 1))])], numbers_of(Rules([(row(50), row(49))])).told())

    def test_each_step_leads_to_a_term_to_which_the_one_before_falls(self):
        self.row_of_steps(longest=False)

    def test_no_row_of_steps_is_longer_than_the_count(self):
        self.row_of_steps(longest=True)

    def row_of_steps(self, longest):
        for texts, leaves, names in (
            (SUMS[:2], (0, ("n",)), (("add", 2), ("s", 1))),
            (["g(f(?0),?1)>f(g(?0,?1))", "g(?0,?1)>?1", "f(a)>a"], (0, A), (F, G)),
            (["g(?0,f(?1))>f(g(?0,?1))", "f(f(?0))>f(?0)"], (0, 1), (F, G)),
        ):
            rules = ruled(*texts)
            paper = numbers_of(rules)
            met, known = 0, {}
            for term in small_terms(3, leaves, names):
                if longest:
                    count = longest_row(rules, term, known)
                    self.assertLessEqual(count, paper.count(term))
                    met += count > 0
                else:
                    for step in rules.steps(term):
                        self.assertIs(True, paper.falls(term, step[2]))
                        met += 1
            self.assertGreater(met, 15)


class MultipliedTest(unittest.TestCase):
    def test_rows_of_steps_by_a_paper_with_products(self):
        rules = ruled(*SUMS[:3], "mul(s(?0),?1)>add(?1,mul(?0,?1))")
        paper = Numbers([
            (("add", 2), [(2, (1, 0)), (1, (0, 1))]), (("mul", 2), [(3, (1, 1))]), (("n", 0), [(1, ())]), (("s", 1), [(1, (1,)), (1, (0,))]),
        ])
        self.assertIs(True, paper.lets(rules))
        # None of those that are sought lets them: they have no products of two places.
        self.assertIsNone(numbers_of(rules))
        known, longest = {}, 0
        for term in small_terms(3, (0, ("n",)), (("s", 1), ("mul", 2))) + [read("mul(s(s(n)),s(s(n)))"), read("mul(mul(s(s(n)),s(n)),s(?0))")]:
            count = longest_row(rules, term, known)
            self.assertLessEqual(count, paper.count(term))
            longest = max(longest, count)
        for term in list(known):
            for step in rules.steps(term):
                self.assertIs(True, paper.falls(term, step[2]))
                self.assertGreater(paper.count(term), paper.count(step[2]))
        self.assertGreater(longest, 5)


class OwnTest(unittest.TestCase):
    def test_nothing_handed_in_is_changed(self):
        handed = copy.deepcopy(MIXED)
        paper = Numbers(handed)
        worths = {0: 5, 7: 9}
        paper.value(("g", 0, ("f", 7)), worths)
        paper.form(("g", 0, ("f", 7)))
        paper.falls(("g", 0, 7), 0)
        for found, listed in paper.told():
            listed.clear()
        self.assertEqual(MIXED, handed)
        self.assertEqual({0: 5, 7: 9}, worths)
        rules = ruled(*SUMS[:2])
        was = rules.told()
        numbers_of(rules)
        paper.lets(ruled("f(?0)>?0"))
        self.assertEqual(was, rules.told())
        odd = [(F, [(1, (1,)), [2, (0,)]]), {"c": [0]}]
        was = copy.deepcopy(odd)
        refused(self, NoPaper, Numbers, odd)
        self.assertEqual(was, odd)

    def test_a_later_change_of_what_was_handed_in_changes_nothing(self):
        handed = copy.deepcopy(MIXED)
        paper = Numbers(handed)
        handed[2][1].append((7, (1,)))
        handed[0][1][0] = (9, ())
        handed.reverse()
        handed.append((("z", 0), [(1, ())]))
        self.assertEqual(MIXED, paper.told())
        self.assertEqual(5, paper.value(("f", A)))
        refused(self, NoHead, paper.value, ("z",))

    def test_what_is_told_is_the_askers_own(self):
        paper = Numbers(MIXED)
        told = paper.told()
        told[2][1].append((7, (1,)))
        told[0][1].clear()
        told.clear()
        self.assertEqual(MIXED, paper.told())
        self.assertEqual(5, paper.value(("f", A)))
        form = paper.form(("g", 0, 1))
        form.clear()
        self.assertEqual([(((0, 1), (1, 1)), 3), (((1, 1),), 2)], paper.form(("g", 0, 1)))
        found = numbers_of(ruled("a>b"))
        found.told()[0][1].clear()
        self.assertEqual([(("a", 0), [(2, ())]), (("b", 0), [(1, ())])], found.told())
        self.assertEqual([(("a", 0), [(2, ())]), (("b", 0), [(1, ())])], numbers_of(ruled("a>b")).told())

    def test_two_papers_know_nothing_of_one_another(self):
        listed = [(1, (1,))]
        one, other = Numbers([(F, listed)]), Numbers([(F, listed), (("h", 1), listed)])
        other.told()[0][1].append((1, (0,)))
        self.assertEqual([(F, [(1, (1,))])], one.told())
        self.assertEqual([(F, [(1, (1,))]), (("h", 1), [(1, (1,))])], other.told())


if __name__ == "__main__":
    unittest.main()
