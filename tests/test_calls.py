import copy
import inspect
import itertools
import unittest

from endwise import calls as module
from endwise.calls import Calls, calls, calls_of
from endwise.errors import NoPaper, TooMany
from endwise.papers import Paper
from endwise.rules import Rules
from endwise.terms import head, part, paths
from endwise.texts import read
from helper import ACK, SUMS, deep, many_heads, refused, ruled, small_terms, strange_things, wide

A = ("a",)
F = ("f", 1)
G = ("g", 2)


def chosen(text):
    """Calls of choices written as f/1:0 g/2:1."""
    words = [word.replace("/", ":").split(":") for word in text.split()]
    return Calls([((name, int(count)), int(place)) for name, count, place in words])


def parts_of(term):
    return [part(term, path) for path in paths(term)]


def calls_by_words(rules):
    made = {head(left) for left, right in rules.told()}
    found = []
    for number, (left, right) in enumerate(rules.told()):
        found.extend((number, path) for path in paths(right) if head(part(right, path)) in made)
    return sorted(found)


def leads_on(edges, start, target):
    """Whether these lead, one behind another and one at least, from the start to the target."""
    reached = {start}
    for _ in range(len(edges) + 1):
        behind = {second for first, second in edges if first in reached}
        if target in behind:
            return True
        reached |= behind
    return False


def lets_by_words(told, rules):
    places = dict(told)
    found = []
    for number, path in calls_by_words(rules):
        left, right = rules.told()[number]
        found.append((left, part(right, path)))
    edges = [(head(left), head(call)) for left, call in found]
    same = []
    for left, call in found:
        if not (leads_on(edges, head(left), head(call)) and leads_on(edges, head(call), head(left))):
            continue
        if head(left) not in places or head(call) not in places:
            return False
        upper, lower = left[1 + places[head(left)]], call[1 + places[head(call)]]
        if lower == upper:
            same.append((head(left), head(call)))
        elif lower not in parts_of(upper):
            return False
    return not any(leads_on(same, first, first) for first, second in same)


class InterfaceTest(unittest.TestCase):
    def test_names_and_arguments(self):
        self.assertEqual(["chosen"], list(inspect.signature(Calls).parameters))
        self.assertEqual(["rules"], list(inspect.signature(module.calls).parameters))
        self.assertEqual(["rules"], list(inspect.signature(module.calls_of).parameters))
        for name, arguments in {"told": [], "falls": ["one", "other"], "lets": ["rules"]}.items():
            self.assertEqual(["self"] + arguments, list(inspect.signature(getattr(Calls, name)).parameters))

    def test_under_paper(self):
        self.assertEqual((Paper,), Calls.__bases__)
        self.assertIsInstance(Calls([]), Paper)


class CallsTest(unittest.TestCase):
    def test_calls(self):
        for texts, told in (
            ([], []),
            (["a>b"], []),
            (["a>a"], [(0, ())]),
            (["f(?0)>?0"], []),
            (["f(?0)>g(f(?0),h(f(f(a))))"], [(0, (0,)), (0, (1, 0)), (0, (1, 0, 0))]),
            (["a>b", "b>f(a,b)"], [(0, ()), (1, (0,)), (1, (1,))]),
            # One name with other places is another head.
            (["f(?0,?1)>f(f(?0))"], []),
            (["f(?0,?1)>f(?0)", "f(?0)>a"], [(0, ())]),
            (SUMS, [(1, (0,)), (3, ()), (3, (0,))]),
            (ACK, [(1, ()), (2, ()), (2, (1,))]),
        ):
            with self.subTest(texts):
                found = calls(ruled(*texts))
                self.assertEqual(told, found)
                self.assertIs(list, type(found))
                self.assertEqual(calls_by_words(ruled(*texts)), found)

    def test_great_rules(self):
        rules = Rules([(("w",) + (0,) * 9, wide(1000)), (("f", 0), deep(59))])
        found = calls(rules)
        self.assertEqual(calls_by_words(rules), found)
        self.assertEqual([(1, (0,) * count) for count in range(59)], [one for one in found if one[0] == 1])


class MadeTest(unittest.TestCase):
    def test_as_told(self):
        for told in ([], [(F, 0)], [(G, 1), (F, 0)], [(G, 0)], [(("f", 9), 8), (("f", 8), 0)], [(("abcdefgh", 2), 1)]):
            found = Calls(told).told()
            self.assertEqual(told, found)
            self.assertEqual([list] + [tuple] * len(told), [type(found)] + [type(one) for one in found])

    def test_sixty_and_no_more(self):
        listed = [((name, 1 + count % 9), count % 9) for name, count in many_heads(61)]
        listed = [((name, count), min(place, count - 1)) for (name, count), place in listed]
        self.assertEqual(listed[:60], Calls(listed[:60]).told())
        refused(self, NoPaper, Calls, listed)
        refused(self, NoPaper, Calls, listed[:1] * 2000)

    def test_unlike_heads(self):
        refused(self, NoPaper, Calls, [(F, 0), (F, 0)])
        refused(self, NoPaper, Calls, [(G, 0), (F, 0), (G, 1)])

    def test_a_place_less_than_how_many_there_are(self):
        for count in range(10):
            for place in range(count):
                self.assertEqual([(("h", count), place)], Calls([(("h", count), place)]).told())
            for place in (count, count + 1, -1, -count, True, False, None, "0", 10 ** 200, (0,), [0], 0j):
                refused(self, NoPaper, Calls, [(("h", count), place)])
                refused(self, NoPaper, Calls, [(F, 0), (("h", count), place)])

    def test_what_is_no_list(self):
        for thing in strange_things() + [0, "a", F, (F, 0), ((F, 0),), (), {F: 0}, Calls([])]:
            if thing != [] or not isinstance(thing, list):
                with self.subTest(repr(thing)):
                    refused(self, NoPaper, Calls, thing)

    def test_what_is_none_of_its_things(self):
        odd = [0, "a", F, (F,), (F, 0, 0), [F, 0], (0, F), (["f", 1], 0), (("f", 10), 0), (("F", 1), 0), (("f", True), 0), (("f", 0), 0)]
        for thing in strange_things() + odd:
            with self.subTest(repr(thing)):
                refused(self, NoPaper, Calls, [thing])
                refused(self, NoPaper, Calls, [thing, (G, 0)])
                refused(self, NoPaper, Calls, [(G, 0), thing])
                if thing != F:
                    refused(self, NoPaper, Calls, [(thing, 0)])
                if thing != 0 or isinstance(thing, bool) or not isinstance(thing, int):
                    refused(self, NoPaper, Calls, [(F, thing)])


class FallsTest(unittest.TestCase):
    def test_falls(self):
        paper = chosen("f/1:0 g/2:1")
        for one, other, told in (
            ("f(f(a))", "f(a)", True), ("f(a)", "f(a)", False), ("f(a)", "f(f(a))", False), ("f(g(?0,?1))", "f(?0)", True),
            ("g(?0,f(?1))", "g(f(f(?0)),?1)", True), ("g(f(?0),?1)", "g(?0,?1)", False), ("g(a,f(?0))", "f(?0)", True),
            ("f(f(?0))", "g(a,?0)", True), ("f(f(?0))", "f(?1)", False), ("f(f(f(?0)))", "g(h(?9),?0)", True), ("f(a)", "f(b)", False),
            ("f(h(a,b,f(c)))", "f(c)", True), ("f(f(a))", "a", False), ("f(?0)", "?0", False), ("?0", "f(?0)", False), ("?0", "?1", False),
            ("a", "a", False), ("f(f(a))", "h(a)", False), ("h(f(a))", "f(a)", False), ("f(f(a),b)", "f(a)", False), ("f(f(a))", "f(a,a)", False),
        ):
            self.assertIs(told, paper.falls(read(one), read(other)), (one, other))

    def test_small_terms_by_the_words_of_the_document(self):
        terms = small_terms(3, (0, A)) + [("h", A), ("h", ("f", A))]
        for told in ([], [(F, 0)], [(G, 0)], [(G, 1)], [(F, 0), (G, 0)], [(G, 1), (F, 0)]):
            paper, places = Calls(told), dict(told)
            for one, other in itertools.product(terms, repeat=2):
                expected = False
                if head(one) in places and head(other) in places:
                    upper, lower = one[1 + places[head(one)]], other[1 + places[head(other)]]
                    expected = upper != lower and lower in parts_of(upper)
                self.assertIs(expected, paper.falls(one, other))

    def test_no_head_is_refused(self):
        for paper in (Calls([]), chosen("f/1:0")):
            for one, other in (("zz", "yy"), ("f(zz)", "f(yy)"), ("x(f(a))", "f(a)"), ("f(f(a))", "x(a)")):
                self.assertIs(False, paper.falls(read(one), read(other)))
        self.assertIs(True, chosen("f/1:0").falls(read("f(x(y))"), read("f(y)")))

    def test_great_terms(self):
        paper = chosen("f/1:0")
        self.assertIs(True, paper.falls(deep(59), deep(58)))
        self.assertIs(True, paper.falls(deep(70), deep(1)))
        self.assertIs(False, paper.falls(deep(70), deep(70)))
        self.assertIs(True, paper.falls(("f", wide(1001)), ("f", A)))


class LetsTest(unittest.TestCase):
    def test_lets(self):
        for choices, texts, told in (
            ("", [], True),
            ("f/1:0", [], True),
            # No call at all, or none within a ring.
            ("", ["f(?0)>?0"], True),
            ("", ["a>b", "b>c"], True),
            ("", ["f(?0)>g(?0,?0)", "g(?0,?1)>?0"], True),
            ("", ["f(?0)>g(f(?0),a)"], False),
            ("add/2:0", SUMS[:2], True),
            ("add/2:1", SUMS[:2], False),
            ("", SUMS[:2], False),
            ("add/2:0 mul/2:0", SUMS, True),
            ("add/2:0 mul/2:1", SUMS, False),
            ("mul/2:0", SUMS, False),
            ("f/1:0", ["f(f(?0))>f(?0)"], True),
            ("f/1:0", ["f(?0)>f(?0)"], False),
            ("f/1:0", ["f(?0)>f(f(?0))"], False),
            ("f/1:0", ["f(g(?0,?1))>h(f(?0),f(?1))"], True),
            # What is the same is let as long as such calls have no ring.
            ("e/1:0 o/1:0", ["e(s(?0))>o(?0)", "o(?0)>e(?0)"], True),
            ("e/1:0 o/1:0", ["e(?0)>o(?0)", "o(?0)>e(?0)"], False),
            ("e/1:0 o/1:0", ["e(s(?0))>o(s(?0))", "o(s(?0))>e(?0)"], True),
            ("e/1:0 o/1:0", ["e(s(?0))>o(s(?0))", "o(s(?0))>e(s(?0))", "o(s(?0))>e(?0)"], False),
            ("e/1:0", ["e(s(?0))>o(?0)", "o(?0)>e(?0)"], False),
            ("o/1:0", ["e(s(?0))>o(?0)", "o(?0)>e(?0)"], False),
            # A call out of the ring is not asked for.
            ("e/1:0", ["e(s(?0))>p(e(?0),p(?0,?0))", "p(?0,?1)>q(?1,?0)", "q(?0,?1)>?0"], True),
            # Heads without places can't be chosen.
            ("", ["a>f(a)"], False),
            ("f/1:0", ["a>f(a)"], False),
            ("f/1:0", ["a>f(b)", "f(?0)>a"], False),
            # More than needed does no harm.
            ("add/2:0 x/9:8 s/1:0", SUMS[:2], True),
            # The place of each head counts.
            ("g/2:0 h/2:1", ["g(f(?0),?1)>h(?1,?0)", "h(?0,?1)>g(?1,?0)"], True),
            ("g/2:1 h/2:0", ["g(f(?0),?1)>h(?1,?0)", "h(?0,?1)>g(?1,?0)"], False),
            ("g/2:0 h/2:0", ["g(f(?0),?1)>h(?1,?0)", "h(?0,?1)>g(?1,?0)"], False),
            # Two heads that call one another only over a third one.
            ("a/1:0 b/1:0 c/1:0", ["a(?0)>b(?0)", "b(?0)>c(?0)", "c(f(?0))>a(?0)"], True),
            ("a/1:0 b/1:0 c/1:0", ["a(?0)>b(?0)", "b(?0)>c(?0)", "c(?0)>a(?0)"], False),
            ("a/1:0 b/1:0", ["a(?0)>b(?0)", "b(?0)>c(?0)", "c(f(?0))>a(?0)"], False),
        ):
            with self.subTest((choices, texts)):
                self.assertIs(told, chosen(choices).lets(ruled(*texts)))
                self.assertEqual(told, lets_by_words(chosen(choices).told(), ruled(*texts)))

    def test_all_of_a_pool_by_the_words_of_the_document(self):
        pool = [
            "f(f(?0))>f(?0)", "f(?0)>g(?0,?0)", "g(f(?0),?1)>f(?0)", "g(?0,f(?1))>g(?1,?1)", "g(?0,?1)>h(?1)", "h(f(?0))>g(?0,?0)",
            "h(?0)>f(?0)", "g(?0,?1)>g(?0,?1)", "f(a)>h(a)", "a>f(b)", "g(f(?0),f(?1))>g(f(?0),g(?1,?0))", "h(g(?0,?1))>p(h(?0),f(?1))",
        ]
        papers = []
        for places in itertools.product((None, 0), (None, 0, 1), (None, 0)):
            heads = (F, G, ("h", 1))
            papers.append([(found, place) for found, place in zip(heads, places) if place is not None])
        outcomes = [0, 0]
        for texts in itertools.chain(*[itertools.combinations(pool, count) for count in (1, 2, 3)]):
            rules = ruled(*texts)
            for told in papers:
                expected = lets_by_words(told, rules)
                self.assertIs(expected, Calls(told).lets(rules), (told, texts))
                outcomes[expected] += 1
            found = calls_of(rules)
            self.assertEqual(self.sought(rules), found and found.told(), texts)
        self.assertGreater(min(outcomes), 400)

    def sought(self, rules):
        edges = [
            (head(rules.told()[number][0]), head(part(rules.told()[number][1], path))) for number, path in calls_by_words(rules)
        ]
        ringed = sorted({first for first, second in edges if leads_on(edges, first, first) and first[1] > 0})
        for places in itertools.product(*[range(found[1]) for found in ringed]):
            if lets_by_words(list(zip(ringed, places)), rules):
                return list(zip(ringed, places))
        return None


class CallsOfTest(unittest.TestCase):
    def test_calls_of(self):
        for texts, told in (
            ([], []),
            (["f(?0)>?0"], []),
            (["a>b", "b>c"], []),
            (["f(?0)>g(?0,?0)", "g(?0,?1)>?0"], []),
            (SUMS[:2], [(("add", 2), 0)]),
            (SUMS, [(("add", 2), 0), (("mul", 2), 0)]),
            (ACK[:2], [(("k", 2), 0)]),
            (["g(?0,f(?1))>g(f(?0),?1)"], [(G, 1)]),
            (["g(f(?0),f(?1))>g(?0,?1)"], [(G, 0)]),
            (["g(f(?0),?1)>h(?1,?0)", "h(?0,?1)>g(?1,?0)"], [(G, 0), (("h", 2), 1)]),
            (["o(?0)>e(?0)", "e(s(?0))>o(?0)"], [(("e", 1), 0), (("o", 1), 0)]),
            (["e(s(?0))>p(e(?0),?0)", "p(?0,?1)>?0"], [(("e", 1), 0)]),
        ):
            with self.subTest(texts):
                found = calls_of(ruled(*texts))
                self.assertIs(Calls, type(found))
                self.assertEqual(told, found.told())
                self.assertIs(True, found.lets(ruled(*texts)))

    def test_none(self):
        for texts in (["a>a"], ["a>b", "b>a"], ["f(?0)>f(f(?0))"], ["g(?0,?1)>g(?1,?0)"], ["a>f(a)"], ACK + ["k(?0,?1)>k(?1,?0)"]):
            self.assertIsNone(calls_of(ruled(*texts)))
        self.assertIsNone(calls_of(ruled("g(f(?0),?1)>g(?0,f(?1))", "g(?0,f(?1))>g(f(?0),?1)")))

    def looping(self, counts, right=None):
        """For each count a head with so many places that calls itself with less in its last place."""
        rules = []
        for number, count in enumerate(counts):
            name = "n" + "abcdefghij"[number]
            before = tuple(range(count - 1))
            rules.append(((name,) + before + (("s", count),), (name,) + before + (count,)))
        return Rules(rules + (right or []))

    def test_three_thousand_choices_and_no_more(self):
        found = calls_of(self.looping((8, 3, 5, 5, 5)))
        self.assertEqual([7, 2, 4, 4, 4], [place for found, place in found.told()])
        refused(self, TooMany, calls_of, self.looping((6, 7, 8, 9)))
        self.assertEqual(4, len(calls_of(self.looping((6, 7, 8, 8))).told()))
        refused(self, TooMany, calls_of, self.looping((2,) * 10, right=[(("z", ("s", 0), 1, 2), ("z", 0, 1, 2))]))
        # Heads that are in no ring make no choice.
        for more in ([(("z",) + tuple(range(9)), 0)], [(("z",) + tuple(range(9)), ("na", 0))]):
            self.assertEqual(5, len(calls_of(self.looping((8, 3, 5, 5, 5), right=more)).told()))

    def test_too_many_goes_ahead_of_all(self):
        # A head without places in a ring: none of the choices could ever do.
        refused(self, TooMany, calls_of, self.looping((6, 7, 8, 9), right=[(A, A)]))
        self.assertIsNone(calls_of(self.looping((8, 3, 5, 5, 5), right=[(A, A)])))

    def test_of_no_rules_the_paper_of_nothing(self):
        self.assertEqual([], calls_of(Rules([])).told())

    def test_forty_heads_in_one_ring(self):
        names = ["n" + one + two for one in "abcd" for two in "abcdefghij"]
        row = [((name, 0), (names[number + 1], 0)) for number, name in enumerate(names[:-1])]
        self.assertEqual([((name, 1), 0) for name in names], calls_of(Rules(row + [((names[-1], ("s", 0)), (names[0], 0))])).told())
        self.assertIsNone(calls_of(Rules(row + [((names[-1], 0), (names[0], 0))])))


class OwnTest(unittest.TestCase):
    def test_nothing_handed_in_is_changed(self):
        handed = [(G, 1), (F, 0)]
        paper = Calls(handed)
        paper.told().clear()
        paper.falls(("f", ("f", A)), ("f", A))
        rules = ruled(*SUMS)
        was = rules.told()
        paper.lets(rules)
        calls(rules).clear()
        calls_of(rules).told().clear()
        self.assertEqual([(G, 1), (F, 0)], handed)
        self.assertEqual(was, rules.told())
        odd = [(F, 0), [G, 0], {"c": [0]}]
        was = copy.deepcopy(odd)
        refused(self, NoPaper, Calls, odd)
        self.assertEqual(was, odd)

    def test_a_later_change_of_what_was_handed_in_changes_nothing(self):
        handed = [(G, 1)]
        paper = Calls(handed)
        handed[0] = (G, 0)
        handed.append((F, 0))
        self.assertEqual([(G, 1)], paper.told())
        self.assertIs(True, paper.falls(("g", A, ("f", A)), ("g", ("f", A), A)))
        self.assertIs(False, paper.falls(("f", ("f", A)), ("f", A)))

    def test_what_is_told_is_the_askers_own(self):
        paper = Calls([(G, 1)])
        paper.told().append((F, 0))
        self.assertEqual([(G, 1)], paper.told())
        found = calls_of(ruled(*SUMS))
        found.told().clear()
        self.assertEqual([(("add", 2), 0), (("mul", 2), 0)], found.told())
        rules = ruled(*SUMS)
        calls(rules).clear()
        self.assertEqual([(1, (0,)), (3, ()), (3, (0,))], calls(rules))


if __name__ == "__main__":
    unittest.main()
