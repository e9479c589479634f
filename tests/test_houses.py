import copy
import functools
import inspect
import itertools
import random
import unittest

from endwise import houses
from endwise.errors import NoPair, TooGreat
from endwise.houses import House, beyond
from endwise.reasons import borne
from endwise.rules import Rules
from endwise.terms import count_parts, head, part, paths
from endwise.texts import read
from helper import deep, refused, small_terms, strange_things, wide

A = ("a",)
B = ("b",)
C = ("c",)


def told(*texts):
    """Pairs written as f(a)=b."""
    return [tuple(read(side) for side in text.split("=")) for text in texts]


def house(*texts):
    return House(told(*texts))


def terms_by_parts(most, leaves=(A, B), names=(("f", 1), ("g", 2))):
    """All terms of at most so many parts over these leaves and heads."""
    sized = {1: list(leaves)}
    for count in range(2, most + 1):
        sized[count] = []
        for name, places in names:
            for split in itertools.product(range(1, count), repeat=places):
                if sum(split) == count - 1:
                    sized[count].extend((name,) + below for below in itertools.product(*[sized[one] for one in split]))
    return [term for count in sized for term in sized[count]]


def beyond_by_words(one, other):
    if one == other:
        return False
    if count_parts(one) != count_parts(other):
        return count_parts(one) > count_parts(other)
    if head(one) != head(other):
        return head(one) > head(other)
    first, second = [places for places in zip(one[1:], other[1:]) if places[0] != places[1]][0]
    return beyond_by_words(first, second)


def classes_by_words(pairs, terms):
    """For each of the terms and all parts of them and of the pairs' terms a number, the same for those that are alike."""
    known = {}
    for term in list(terms) + [side for pair in pairs for side in pair]:
        for path in paths(term):
            known.setdefault(part(term, path), len(known))
    while True:
        was = dict(known)
        for one, other in pairs:
            merged(known, one, other)
        signs = {}
        for term in list(known):
            sign = (term[0],) + tuple(known[place] for place in term[1:])
            merged(known, term, signs.setdefault(sign, term))
        if known == was:
            return known


def merged(known, one, other):
    goes, stays = known[one], known[other]
    if goes != stays:
        for term in known:
            if known[term] == goes:
                known[term] = stays


def least_by_words(known, term):
    alike = [other for other in known if known[other] == known[term]]
    return sorted(alike, key=functools.cmp_to_key(lambda one, other: 1 if beyond_by_words(one, other) else -1 if one != other else 0))[0]


HOUSES = [
    [], ["a=b"], ["f(a)=a"], ["a=f(a)"], ["f(f(a))=a"], ["f(f(f(a)))=a", "f(f(a))=a"], ["f(a)=b"], ["f(a)=b", "f(b)=a"], ["g(a,b)=a"],
    ["g(a,b)=b", "g(b,a)=a"], ["g(a,a)=f(b)"], ["f(a)=f(b)"], ["g(a,b)=g(b,a)"], ["f(f(a))=b", "f(b)=b"], ["a=b", "f(a)=a"],
    ["g(f(a),b)=f(a)", "f(a)=b"], ["f(g(a,b))=a", "g(a,b)=b"], ["g(a,f(b))=b", "f(b)=a"], ["f(f(a))=f(a)"], ["f(f(b))=g(a,a)", "f(b)=a"],
    ["a=a"], ["b=g(a,a)", "b=f(a)"], ["b=f(b)", "a=f(f(b))"],
]


class InterfaceTest(unittest.TestCase):
    def test_names_and_arguments(self):
        self.assertEqual(["one", "other"], list(inspect.signature(houses.beyond).parameters))
        self.assertEqual(["pairs"], list(inspect.signature(House).parameters))
        told_names = {"told": [], "rules_of": [], "least": ["term"], "alike": ["one", "other"], "reason": ["one", "other"]}
        for name, arguments in told_names.items():
            self.assertEqual(["self"] + arguments, list(inspect.signature(getattr(House, name)).parameters))


class BeyondTest(unittest.TestCase):
    def test_beyond(self):
        for one, other in (
            ("f(a)", "a"), ("f(a)", "z"), ("b", "a"), ("ab", "aa"), ("b", "abcdefgh"), ("f(b)", "f(a)"), ("g(a)", "f(b)"), ("g(b,a)", "g(a,b)"),
            ("f(f(a))", "g(b)"), ("g(a,b)", "f(f(a))"), ("g(a,a)", "g(f(a))"), ("h(a)", "g(h)"), ("g(f(a),a)", "g(b,f(b))"),
            ("g(f(a),a)", "g(a,f(a))"), ("f(f(a),a)", "f(a,f(z))"), ("g(a,f(b))", "g(a,f(a))"), ("f(a,a)", "f(f(f))"), ("a(b,b)", "a(a(c))"),
            ("f(g(a,b),a)", "f(g(a,a),z)"), ("f(a,a,a)", "f(a,f(a))"),
        ):
            self.assertIs(True, beyond(read(one), read(other)), (one, other))
            self.assertIs(False, beyond(read(other), read(one)), (one, other))

    def test_small_terms_by_the_words_of_the_document(self):
        terms = small_terms(2, (A, B, C), (("f", 1), ("g", 2), ("f", 2))) + terms_by_parts(5, (A, B))
        terms = terms[:40] + terms[40::9]
        for one, other in itertools.product(terms, repeat=2):
            self.assertIs(beyond_by_words(one, other), beyond(one, other), (one, other))

    def test_no_term_is_beyond_itself(self):
        for term in (A, deep(59), wide(1000), deep(70)):
            self.assertIs(False, beyond(term, term))

    def test_great_terms(self):
        # Not only plain ones, and somewhat beyond the bounds.
        self.assertIs(True, beyond(deep(59, B), deep(59)))
        self.assertIs(False, beyond(deep(59), deep(59, B)))
        self.assertIs(True, beyond(wide(1000), wide(999)))
        self.assertIs(False, beyond(wide(1000), wide(1001)))
        self.assertIs(True, beyond(deep(70), deep(69, B)))


class MadeTest(unittest.TestCase):
    def test_as_told(self):
        for pairs in ([], told("a=b"), told("a=b", "a=b", "b=a"), told("f(a)=f(a)"), told("g(a,b)=b", "z=f(f(f(x)))")):
            found = House(pairs).told()
            self.assertEqual(pairs, found)
            self.assertEqual([list] + [tuple] * len(pairs), [type(found)] + [type(pair) for pair in found])

    def test_forty_pairs_and_no_more(self):
        self.assertEqual(40, len(House([(A, B)] * 40).told()))
        refused(self, NoPair, House, [(A, B)] * 41)
        refused(self, NoPair, House, [(A, B)] * 2000)

    def test_sixty_parts_and_no_more(self):
        for term in (wide(60), deep(59)):
            self.assertEqual([(term, A)], House([(term, A)]).told())
            self.assertEqual([(A, term)], House([(A, term)]).told())
        for term in (wide(61), ("g", deep(58), A), deep(60), wide(1000)):
            refused(self, NoPair, House, [(term, A)])
            refused(self, NoPair, House, [(A, term)])
            refused(self, NoPair, House, [(A, B), (A, term)])

    def test_no_blanks(self):
        for term in (0, 7, ("f", 0), ("g", A, ("f", 999))):
            refused(self, NoPair, House, [(term, A)])
            refused(self, NoPair, House, [(A, term)])
            refused(self, NoPair, House, [(term, term)])

    def test_what_is_no_list(self):
        for thing in strange_things() + [0, "a=b", (A, B), ((A, B),), (), {A: B}, House([])]:
            if thing != [] or not isinstance(thing, list):
                with self.subTest(repr(thing)):
                    refused(self, NoPair, House, thing)

    def test_what_is_no_pair(self):
        odd = [0, "a", A, (A,), (A, B, C), [A, B], ("a", "b"), (A, "b"), (["a"], A), (A, ("B",)), (A, ("f",) + (A,) * 10), (("abcdefghi",), A)]
        for thing in strange_things() + odd:
            with self.subTest(repr(thing)):
                refused(self, NoPair, House, [thing])
                refused(self, NoPair, House, [(A, B), thing])
                refused(self, NoPair, House, [thing, (A, B)])
                if thing != A:
                    refused(self, NoPair, House, [(thing, A)])
                    refused(self, NoPair, House, [(A, thing)])


class AlikeTest(unittest.TestCase):
    def bears(self, pairs, lines, one, other):
        self.assertIs(list, type(lines))
        self.assertEqual((one, other), borne(lines, pairs)[-1])

    def test_alike(self):
        for texts, one, other, expected in (
            ([], "a", "a", True), ([], "a", "b", False), ([], "f(a)", "f(a)", True), (["a=b"], "a", "b", True), (["a=b"], "b", "a", True),
            (["a=b"], "f(a)", "f(b)", True), (["a=b"], "f(a)", "g(b)", False), (["a=b"], "f(a,c)", "f(b,c)", True), (["a=b"], "c", "c", True),
            (["a=b"], "f(a)", "f(a,b)", False), (["a=b", "b=c"], "a", "c", True), (["a=b", "c=b"], "a", "c", True), (["a=b", "c=d"], "a", "c", False),
            (["f(a)=f(b)"], "a", "b", False), (["f(f(f(a)))=a", "f(f(f(f(f(a)))))=a"], "f(a)", "a", True),
            (["f(f(a))=a", "f(f(f(f(a))))=a"], "f(a)", "a", False), (["g(a,b)=a"], "g(g(a,b),b)", "a", True), (["f(a)=a"], "h(f(f(f(a))))", "h(a)", True),
            (["a=b"], "x(y(a,z),f(b))", "x(y(b,z),f(a))", True), (["f(a)=c", "a=b"], "f(b)", "c", True), (["f=g"], "f(f)", "f(g)", True),
            (["f=g"], "f(f)", "g(g)", False),
        ):
            with self.subTest((texts, one, other)):
                found = house(*texts)
                first, second = read(one), read(other)
                self.assertIs(expected, found.alike(first, second))
                self.assertIs(expected, found.alike(second, first))
                self.assertIs(expected, found.least(first) == found.least(second))
                for left, right in ((first, second), (second, first)):
                    lines = found.reason(left, right)
                    if expected:
                        self.bears(told(*texts), lines, left, right)
                    else:
                        self.assertIsNone(lines)

    def test_small_terms_by_the_words_of_the_document(self):
        terms = terms_by_parts(5)
        for texts in HOUSES:
            known = classes_by_words(told(*texts), terms)
            found = house(*texts)
            chosen = terms[:20] + terms[20::17]
            for one, other in itertools.product(chosen, repeat=2):
                expected = known[one] == known[other]
                self.assertIs(expected, found.alike(one, other), (texts, one, other))
                lines = found.reason(one, other)
                self.assertIs(expected, lines is not None)
                if expected:
                    self.bears(told(*texts), lines, one, other)

    def test_thrown_pairs_by_the_words_of_the_document(self):
        dice = random.Random(4)
        terms = terms_by_parts(4)
        outcomes = [0, 0]
        for _ in range(60):
            pairs = [(dice.choice(terms[:12]), dice.choice(terms)) for _ in range(dice.randint(2, 5))]
            asked = [dice.choice(terms[:25]) for _ in range(12)]
            known = classes_by_words(pairs, asked)
            found = House(pairs)
            for one, other in itertools.product(asked, repeat=2):
                expected = known[one] == known[other]
                self.assertIs(expected, found.alike(one, other))
                lines = found.reason(one, other)
                self.assertIs(expected, lines is not None)
                if expected and one != other:
                    self.bears(pairs, lines, one, other)
                    outcomes[0] += 1
                outcomes[1] += not expected
        self.assertGreater(min(outcomes), 300, outcomes)

    def test_parts_above_what_is_brought_together_one_after_another(self):
        # The heads above b and those above c meet only by way of a, whichever of them has more above it.
        rows = [["f(a)=m", "g(a)=m", "h(b)=n", "h(c)=p", "x(c)=q", "y(c)=q", "z(c)=q"], ["h(b)=n", "h(c)=p"], ["h(b)=n", "f(a)=m", "h(c)=p", "f(b)=x"]]
        for row in rows:
            for last in itertools.permutations(["a=b", "a=c"]):
                pairs = told(*row, *last)
                found = House(pairs)
                for one, other in (("n", "p"), ("h(b)", "p"), ("h(a)", "n"), ("k(h(a),c)", "k(n,a)")):
                    self.assertIs(True, found.alike(read(one), read(other)), (row, last, one, other))
                    self.bears(pairs, found.reason(read(one), read(other)), read(one), read(other))
                self.assertIs(False, found.alike(read("n"), read("a")))

    def test_many_heads_thrown_by_the_words_of_the_document(self):
        dice = random.Random(6)
        leaves = [(name,) for name in "abcdemnopq"]
        met = 0
        for _ in range(80):
            terms = leaves + [(dice.choice("fghk"), dice.choice(leaves)) for _ in range(20)]
            terms += [(dice.choice("fg"), dice.choice(terms), dice.choice(terms)) for _ in range(8)]
            pairs = [(dice.choice(terms), dice.choice(terms)) for _ in range(dice.randint(12, 25))]
            known = classes_by_words(pairs, terms)
            found = House(pairs)
            for one, other in [(dice.choice(terms), dice.choice(terms)) for _ in range(60)]:
                expected = known[one] == known[other]
                self.assertIs(expected, found.alike(one, other))
                lines = found.reason(one, other)
                self.assertIs(expected, lines is not None)
                if expected:
                    self.bears(pairs, lines, one, other)
                    met += one != other
        self.assertGreater(met, 300)

    def test_great_houses(self):
        names = [(one + two,) for one in "abcd" for two in "abcdefghij"]
        # From fifty-eight and from fifty-seven levels above the first name to itself; and from each name to the next.
        pairs = [(deep(58, names[0]), names[0]), (deep(57, names[0]), names[0])]
        for number in range(19):
            pairs.append((deep(58, names[number]), deep(57, names[number + 1])))
            pairs.append((deep(number + 3, names[number]), deep(2 * number + 2, names[number + 1])))
        found = House(pairs)
        for one, other, expected in (
            (deep(1, names[0]), names[0], True), (names[0], deep(57, names[19]), True), (deep(50, names[19]), deep(51, names[19]), False),
            (names[19], names[0], False), (deep(59, names[3]), deep(58, names[5]), True),
        ):
            self.assertIs(expected, found.alike(one, other))
            lines = found.reason(one, other)
            self.assertIs(expected, lines is not None)
            if expected:
                self.bears(pairs, lines, one, other)
        pairs = [(wide(60), names[0]), (names[0], ("w",) + (A,) * 9)]
        self.bears(pairs, House(pairs).reason(("w",) + (A,) * 9, wide(60)), ("w",) + (A,) * 9, wide(60))

    def test_the_forms_of_lines(self):
        lines = house("f(f(f(a)))=a", "f(f(f(f(f(a)))))=a").reason(read("g(f(a),b)"), read("g(a,b)"))
        self.assertIn("in", [line[0] for line in lines])
        for line in lines:
            self.assertIs(tuple, type(line))
            self.assertIn(line[0], ("told", "self", "back", "then", "in"))
        for term in (A, wide(60)):
            self.assertEqual([(term, term)], borne(house().reason(term, term), [])[-1:])


class LeastTest(unittest.TestCase):
    def test_least(self):
        for texts, term, least in (
            ([], "f(a)", "f(a)"), (["a=b"], "b", "a"), (["a=b"], "a", "a"), (["a=b"], "c", "c"), (["a=b"], "f(b,g(b))", "f(a,g(a))"),
            (["f(a)=b"], "f(a)", "b"), (["f(z)=g(y)"], "g(y)", "f(z)"), (["f(z)=g(y)"], "h(g(y))", "h(f(z))"), (["f(a)=a"], "f(f(f(a)))", "a"),
            (["z=f(a)", "a=g(z)"], "g(f(a))", "a"), (["b=f(f(a))", "f(a)=c"], "f(c)", "b"), (["g(a,b)=g(b,a)"], "g(b,a)", "g(a,b)"),
            (["f(b)=g(c)", "b=c"], "g(c)", "f(b)"), (["f(a,a)=f(f(a))"], "f(a,a)", "f(f(a))"), (["f(b,b)=f(f(a))"], "f(f(a))", "f(f(a))"), (["f(b)=c", "g(c)=b", "g(c)=a"], "f(g(f(a)))", "c"),
        ):
            found = house(*texts).least(read(term))
            self.assertEqual(read(least), found, (texts, term))

    def test_small_terms_by_the_words_of_the_document(self):
        terms = terms_by_parts(5)
        for texts in HOUSES:
            known = classes_by_words(told(*texts), terms)
            found = house(*texts)
            for term in terms[:20] + terms[20::5]:
                least = least_by_words(known, term)
                self.assertEqual(least, found.least(term), (texts, term))
                self.assertLessEqual(count_parts(least), count_parts(term))
                self.assertFalse([other for other in terms if known[other] == known[term] and beyond(least, other)])

    def test_rules_by_the_words_of_the_document(self):
        terms = terms_by_parts(5)
        for texts in HOUSES:
            pairs = told(*texts)
            known = classes_by_words(pairs, terms)
            expected = set()
            for side in [side for pair in pairs for side in pair]:
                for path in paths(side):
                    found = part(side, path)
                    left = found[:1] + tuple(least_by_words(known, place) for place in found[1:])
                    least = least_by_words(known, left)
                    if left != least:
                        expected.add((left, least))
            rules = House(pairs).rules_of()
            self.assertEqual(sorted(expected), rules, texts)
            self.assertEqual([list] + [tuple] * len(rules), [type(rules)] + [type(rule) for rule in rules])

    def test_rules_of(self):
        for texts, rules in (
            ([], []), (["a=a"], []), (["a=b"], ["b>a"]), (["b=a"], ["b>a"]), (["f(a)=b"], ["f(a)>b"]), (["f(a)=a"], ["f(a)>a"]),
            (["a=b", "f(b)=c"], ["b>a", "f(a)>c"]), (["f(f(a))=b"], ["f(f(a))>b"]), (["f(a)=b", "f(f(a))=c"], ["f(a)>b", "f(b)>c"]),
            (["f(f(f(a)))=a", "f(f(f(f(f(a)))))=a"], ["f(a)>a"]), (["z=y", "y=x", "x=w"], ["x>w", "y>w", "z>w"]),
            (["g(b)=f(c)", "f(c)=h(a)"], ["g(b)>f(c)", "h(a)>f(c)"]), (["f(g(a,b))=b", "g(a,b)=b"], ["f(b)>b", "g(a,b)>b"]),
        ):
            expected = sorted(tuple(read(side) for side in text.split(">")) for text in rules)
            self.assertEqual(expected, house(*texts).rules_of(), texts)

    def test_the_least_is_the_end_by_the_rules(self):
        for texts in HOUSES:
            found = house(*texts)
            rules = Rules(found.rules_of())
            for term in terms_by_parts(4) + terms_by_parts(6)[::37]:
                self.assertEqual(rules.end(term, 1000)[1], found.least(term))
                self.assertEqual(found.least(term), found.least(found.least(term)))

    def test_pairs_that_say_the_same_tell_the_same_rules(self):
        dice = random.Random(9)
        for texts in HOUSES + [["f(g(a,b))=c", "g(a,b)=f(c)", "f(f(c))=b"], ["x=f(y)", "y=f(z)", "z=f(x)", "f(f(x))=x"]]:
            pairs = told(*texts)
            rules = House(pairs).rules_of()
            turned = [dice.choice([(one, other), (other, one)]) for one, other in pairs]
            dice.shuffle(turned)
            self.assertEqual(rules, House(turned).rules_of())
            self.assertEqual(rules, House(rules).rules_of())
            self.assertEqual(rules, House(rules[::-1] + turned + rules).rules_of())
            self.assertEqual(rules, House(pairs + [(("f", one), ("f", other)) for one, other in pairs]).rules_of())

    def test_many_rules(self):
        names = [(one + two,) for one in "abcdefghij" for two in "abcdefghij"]
        # A name for each of forty left sides of sixty parts.
        pairs = [(deep(58, ("g", name)), name) for name in names[:40]]
        self.assertEqual(sorted(pairs), House(pairs).rules_of())
        # All of them are one, and so is all above them.
        row = [(names[number], names[number + 1]) for number in range(39)]
        found = House(row + [(wide(50), ("f", names[39]))])
        self.assertEqual(sorted([(name, names[0]) for name in names[1:40]] + [(wide(50), ("f", names[0]))]), found.rules_of())
        found = House(row + [(deep(59, names[39]), names[39])])
        self.assertEqual(sorted([(name, names[0]) for name in names[1:40]] + [(deep(59, names[0]), names[0])]), found.rules_of())
        self.assertEqual(deep(58, names[0]), found.least(deep(58, names[20])))

    def test_terms_beyond_the_bounds(self):
        # Of more than sixty parts no less is told; of more than sixty levels none is told.
        found = house("f(a)=a")
        self.assertEqual(A, found.least(deep(80)))
        self.assertIs(True, found.alike(deep(80), A))
        self.assertEqual(deep(59, B), found.least(deep(59, B)))
        self.assertEqual(wide(1000), found.least(wide(1000)))
        refused(self, TooGreat, found.least, deep(60, B))
        refused(self, TooGreat, found.least, wide(1001))
        self.assertIs(False, found.alike(deep(60, B), A))
        # A line whose terms are too great is none: so there is no reason to be told.
        for one, other in ((deep(60), A), (A, deep(60)), (deep(60, B), deep(60, B)), (wide(1001), wide(1001))):
            self.assertIs(True, found.alike(one, other))
            refused(self, TooGreat, found.reason, one, other)
        self.assertIsNone(found.reason(deep(60, B), A))
        self.assertEqual((deep(59), A), borne(found.reason(deep(59), A), found.told())[-1])
        self.assertEqual((wide(1000), wide(1000)), borne(found.reason(wide(1000), wide(1000)), found.told())[-1])


class OwnTest(unittest.TestCase):
    def test_nothing_is_changed_or_shared(self):
        handed = told("f(a)=b", "b=c")
        found = House(handed)
        one, other = read("g(f(a),b)"), read("g(c,f(a))")
        first = found.reason(one, other)
        found.told().clear()
        found.rules_of().clear()
        for line in first:
            if line[0] == "in":
                line[2].clear()
        first.clear()
        self.assertEqual(told("f(a)=b", "b=c"), handed)
        handed.clear()
        self.assertEqual(told("f(a)=b", "b=c"), found.told())
        self.assertEqual(2, len(found.rules_of()))
        self.assertEqual((one, other), borne(found.reason(one, other), found.told())[-1])
        self.assertEqual(found.reason(one, other), found.reason(one, other))

    def test_asking_changes_no_answer(self):
        found = house("f(f(f(a)))=a", "f(f(f(f(f(a)))))=a")
        was = found.reason(deep(1), A)
        found.reason(deep(40), ("f", ("f", A)))
        found.alike(("g", A, B), ("g", deep(3), B))
        found.least(("g", deep(7), B))
        self.assertEqual(was, found.reason(deep(1), A))
        self.assertEqual([(deep(1), A)], found.rules_of())

    def test_two_houses_know_nothing_of_one_another(self):
        one, other = house("a=b"), house("b=c")
        self.assertIs(False, one.alike(A, C))
        self.assertIs(False, other.alike(A, B))
        self.assertIs(True, one.alike(A, B))

    def test_what_is_refused_changes_nothing(self):
        odd = [(A, B), [A, B], {"c": [0]}]
        was = copy.deepcopy(odd)
        refused(self, NoPair, House, odd)
        self.assertEqual(was, odd)


if __name__ == "__main__":
    unittest.main()
