import copy
import inspect
import itertools
import random
import unittest

from endwise import ranks
from endwise.errors import NoHead, NoPaper, TooMany
from endwise.papers import Paper
from endwise.ranks import Ranks, ranks_of
from endwise.rules import Rules
from endwise.terms import head, heads
from endwise.texts import read
from helper import ACK, SUMS, bush, deep, many_heads, refused, ruled, small_terms, strange_things, wide

A = ("a",)
B = ("b",)
HEADS = [("f", 1), ("g", 2), ("a", 0), ("b", 0)]


def ranked(text):
    """Ranks of heads written as f/1 g/2, the highest first."""
    return Ranks([(word.split("/")[0], int(word.split("/")[1])) for word in text.split()])


def falls_by_words(order, one, other):
    """The words of the document, one after another; only for small terms."""
    if isinstance(one, int):
        return False
    if any(place == other or falls_by_words(order, place, other) for place in one[1:]):
        return True
    if isinstance(other, int):
        return False
    if order.index(head(one)) < order.index(head(other)):
        return all(falls_by_words(order, one, place) for place in other[1:])
    if head(one) == head(other) and one != other:
        first = [number for number in range(1, len(one)) if one[number] != other[number]][0]
        if falls_by_words(order, one[first], other[first]):
            return all(falls_by_words(order, one, place) for place in other[first + 1:])
    return False


class TreeCase(unittest.TestCase):
    def bears(self, order, tree, one, other):
        """The tree is of the told form, and says why the one falls to the other."""
        self.assertIs(tuple, type(tree))
        self.assertNotIsInstance(one, int)
        if tree[0] == "part":
            self.assertEqual(3, len(tree))
            place = one[1:][tree[1]]
            self.assertGreaterEqual(tree[1], 0)
            if tree[2] is None:
                self.assertEqual(place, other)
            else:
                self.bears(order, tree[2], place, other)
        elif tree[0] == "head":
            self.assertEqual(2, len(tree))
            self.assertLess(order.index(head(one)), order.index(head(other)))
            self.bear_each(order, tree[1], one, other[1:])
        else:
            self.assertEqual(("row", 4), (tree[0], len(tree)))
            first = tree[1]
            self.assertEqual(head(one), head(other))
            self.assertEqual(one[:first + 1], other[:first + 1])
            self.assertNotEqual(one[first + 1], other[first + 1])
            self.bears(order, tree[2], one[first + 1], other[first + 1])
            self.bear_each(order, tree[3], one, other[first + 2:])

    def bear_each(self, order, trees, one, others):
        self.assertIs(list, type(trees))
        self.assertEqual(len(others), len(trees))
        for tree, other in zip(trees, others):
            self.bears(order, tree, one, other)


class InterfaceTest(unittest.TestCase):
    def test_names_and_arguments(self):
        self.assertEqual(["heads"], list(inspect.signature(Ranks).parameters))
        self.assertEqual(["rules"], list(inspect.signature(ranks.ranks_of).parameters))
        told = {"told": [], "falls": ["one", "other"], "lets": ["rules"], "why": ["one", "other"]}
        for name, arguments in told.items():
            self.assertEqual(["self"] + arguments, list(inspect.signature(getattr(Ranks, name)).parameters))

    def test_under_paper(self):
        self.assertEqual((Paper,), Ranks.__bases__)
        self.assertIsInstance(Ranks([]), Paper)


class MadeTest(unittest.TestCase):
    def test_ranks_as_told(self):
        for told in ([], HEADS, HEADS[::-1], [("a", 0), ("a", 1), ("a", 9)], [("abcdefgh", 9)]):
            self.assertEqual(told, Ranks(told).told())
            self.assertIs(list, type(Ranks(told).told()))

    def test_sixty_heads_and_no_more(self):
        self.assertEqual(60, len(set(many_heads(60))))
        self.assertEqual(many_heads(60), Ranks(many_heads(60)).told())
        refused(self, NoPaper, Ranks, many_heads(61))
        refused(self, NoPaper, Ranks, [("a", 0)] * 2000)

    def test_unlike_heads(self):
        refused(self, NoPaper, Ranks, [("a", 0), ("a", 0)])
        refused(self, NoPaper, Ranks, HEADS + [HEADS[0]])
        refused(self, NoPaper, Ranks, HEADS + [HEADS[-1]])

    def test_what_is_no_list(self):
        for thing in strange_things() + [0, "a", ("a", 0), tuple(HEADS), (), {("a", 0): 0}, {("a", 0)}, Ranks([])]:
            if thing != [] or not isinstance(thing, list):
                with self.subTest(repr(thing)):
                    refused(self, NoPaper, Ranks, thing)

    def test_what_is_no_head(self):
        odd = [0, "a", A, ("a", 10), ("a", -1), ("a", True), ("a", "0"), ["a", 0], ("a", 0, 0), ("abcdefghi", 0), (0, "a")]
        for thing in strange_things() + odd:
            with self.subTest(repr(thing)):
                refused(self, NoPaper, Ranks, [thing])
                refused(self, NoPaper, Ranks, HEADS + [thing])
                refused(self, NoPaper, Ranks, [thing] + HEADS)


class FallsTest(TreeCase):
    def falls(self, order, one, other):
        return ranked(order).falls(read(one), read(other))

    def test_by_a_part(self):
        for one, other in (
            ("f(a)", "a"), ("f(?0)", "?0"), ("g(a,?0)", "?0"), ("g(a,b)", "b"), ("f(f(f(?0)))", "?0"), ("f(g(a,?0))", "g(a,?0)"),
            ("g(b,f(g(?1,?0)))", "?1"),
        ):
            self.assertIs(True, self.falls("a/0 b/0 g/2 f/1", one, other), (one, other))
            self.assertIs(True, self.falls("f/1 g/2 b/0 a/0", one, other), (one, other))

    def test_a_place_that_falls_to_it(self):
        self.assertIs(True, self.falls("a/0 b/0 f/1", "f(a)", "b"))
        self.assertIs(True, self.falls("a/0 b/0 f/1", "f(a)", "f(b)"))
        self.assertIs(False, self.falls("a/0 f/1", "f(a)", "f(f(a))"))
        self.assertIs(True, self.falls("a/0 b/0 f/1", "a", "f(f(b))"))

    def test_by_the_heads(self):
        self.assertIs(True, self.falls("a/0 b/0", "a", "b"))
        self.assertIs(False, self.falls("b/0 a/0", "a", "b"))
        self.assertIs(True, self.falls("f/1 g/2", "f(?0)", "g(?0,?0)"))
        self.assertIs(False, self.falls("g/2 f/1", "f(?0)", "g(?0,?0)"))
        self.assertIs(False, self.falls("f/1 g/2", "f(?0)", "g(?0,?1)"))
        self.assertIs(False, self.falls("f/1 g/2", "f(?0)", "g(?1,?0)"))
        self.assertIs(True, self.falls("f/1 g/2 a/0", "f(?0)", "g(g(?0,a),g(a,?0))"))
        self.assertIs(False, self.falls("a/0 f/1 g/2", "f(?0)", "g(?0,a)"))

    def test_one_name_with_other_places_is_another_head(self):
        self.assertIs(True, self.falls("f/2 f/1", "f(?0,?1)", "f(?1)"))
        self.assertIs(False, self.falls("f/1 f/2", "f(?0,?1)", "f(f(?1))"))
        self.assertIs(True, self.falls("f/1 f/2", "f(?0)", "f(?0,?0)"))

    def test_by_a_row(self):
        order = "g/2 f/1 a/0 b/0"
        self.assertIs(True, self.falls(order, "g(a,?0)", "g(b,?0)"))
        self.assertIs(False, self.falls(order, "g(b,?0)", "g(a,?0)"))
        self.assertIs(True, self.falls(order, "g(?0,f(?1))", "g(?0,?1)"))
        self.assertIs(True, self.falls(order, "g(f(?0),?1)", "g(?0,f(?1))"))
        self.assertIs(False, self.falls(order, "g(f(?0),?1)", "g(?0,?2)"))
        self.assertIs(False, self.falls(order, "g(?0,f(?1))", "g(f(?0),?1)"))
        self.assertIs(True, self.falls(order, "g(f(?0),?1)", "g(?0,g(?0,g(?0,?1)))"))
        self.assertIs(False, self.falls(order, "g(f(?0),?1)", "g(?0,g(f(?0),?1))"))

    def test_nothing_falls_to_itself_and_no_blank_falls(self):
        paper = Ranks(HEADS)
        for term in small_terms(3, (0, A)):
            self.assertIs(False, paper.falls(term, term))
            self.assertIs(False, paper.falls(0, term))
        self.assertIs(False, paper.falls(0, 1))
        self.assertIs(False, paper.falls(A, 0))
        self.assertIs(False, paper.falls(("f", 0), 1))
        self.assertIs(False, Ranks([]).falls(0, 1))

    def test_all_small_terms_and_orders_by_the_words_of_the_document(self):
        terms = small_terms(2, (0, 1, A, B)) + [read(text) for text in (
            "f(f(a))", "f(f(?0))", "f(g(?0,?1))", "g(f(?0),?1)", "g(?0,f(?1))", "g(g(?0,?1),a)", "g(a,g(?0,b))", "f(f(f(b)))",
            "g(f(a),f(b))", "g(g(?0,?1),?2)", "g(?0,g(?1,?2))", "f(g(a,f(?0)))", "g(g(a,b),g(b,a))",
        )]
        for order in itertools.permutations(HEADS):
            paper = Ranks(list(order))
            for one, other in itertools.product(terms, repeat=2):
                expected = falls_by_words(order, one, other)
                self.assertIs(expected, paper.falls(one, other), (order, one, other))
                tree = paper.why(one, other)
                if expected:
                    self.bears(order, tree, one, other)
                else:
                    self.assertIsNone(tree)

    def test_thrown_terms_by_the_words_of_the_document(self):
        dice = random.Random(11)
        order = [("h", 3), ("f", 1), ("a", 0), ("g", 2), ("b", 0)]
        fell = 0
        for _ in range(600):
            dice.shuffle(order)
            one, other = self.thrown(dice, 4), self.thrown(dice, 4)
            paper = Ranks(order)
            expected = falls_by_words(order, one, other)
            self.assertIs(expected, paper.falls(one, other))
            if expected:
                fell += 1
                self.bears(order, paper.why(one, other), one, other)
            else:
                self.assertIsNone(paper.why(one, other))
        self.assertTrue(100 < fell < 500, fell)

    def thrown(self, dice, deepest):
        if deepest == 1 or dice.random() < 0.2:
            return dice.choice([0, 1, A, B])
        name, count = dice.choice([("f", 1), ("g", 2), ("h", 3)])
        return (name,) + tuple(self.thrown(dice, deepest - 1) for _ in range(count))

    def test_no_head(self):
        paper = ranked("f/1 a/0")
        for one, other in ((B, A), (A, B), (("f", B), A), (("f", A), B), (A, ("f", ("f", B))), (("f", A, A), A), (0, B), (B, 0)):
            refused(self, NoHead, paper.falls, one, other)
            refused(self, NoHead, paper.why, one, other)
        refused(self, NoHead, Ranks([]).falls, A, A)
        refused(self, NoHead, paper.falls, ("a", A), A)

    def test_no_head_goes_ahead_of_all(self):
        paper = ranked("g/2 f/1 a/0")
        # Each would be answered without the unknown head being come to.
        for one, other in (
            (("g", A, B), A), (("g", A, B), 0), (0, ("f", B)), (("f", B), ("f", B)), (A, ("g", A, B)), (("g", ("f", A), B), ("f", A)),
        ):
            refused(self, NoHead, paper.falls, one, other)
            refused(self, NoHead, paper.why, one, other)

    def test_each_two_parts_are_reckoned_once(self):
        # Reckoned again wherever they are met, these would take longer than anyone waits.
        paper = ranked("f/1 a/0 b/0")
        self.assertIs(True, paper.falls(deep(59), deep(59, B)))
        self.assertIs(False, paper.falls(deep(59, B), deep(59)))
        self.assertIs(False, paper.falls(deep(58), deep(59, B)))
        self.assertIs(True, paper.falls(deep(59, B), deep(58)))
        self.assertIsNone(paper.why(deep(59, B), deep(59)))
        self.bears([("f", 1), ("a", 0), ("b", 0)], paper.why(deep(59), deep(59, B)), deep(59), deep(59, B))
        paper = ranked("a/0 b/0 f/1")
        self.assertIs(True, paper.falls(deep(59), deep(59, B)))
        self.assertIs(False, paper.falls(deep(59, B), deep(59)))
        paper = ranked("g/2 a/0 b/0")
        one, other = A, B
        for _ in range(8):
            one, other = ("g", one, one), ("g", other, other)
        self.assertIs(True, paper.falls(one, other))
        self.assertIs(False, paper.falls(other, one))
        self.bears([("g", 2), ("a", 0), ("b", 0)], paper.why(one, other), one, other)

    def test_terms_handed_in_beyond_the_bounds(self):
        paper = ranked("w/9 f/1 a/0 b/0")
        self.assertIs(True, paper.falls(deep(62), deep(62, B)))
        self.assertIs(False, paper.falls(deep(62, B), deep(62)))
        self.bears(paper.told(), paper.why(deep(62), deep(62, B)), deep(62), deep(62, B))
        more = Ranks(heads(wide(1001)))
        self.assertIs(True, more.falls(wide(1001), A))

    def test_great_terms(self):
        one, other = bush([A] * 800), bush([A] * 799 + [B])
        order = sorted(set(heads(one) + heads(other)))
        self.assertIs(True, Ranks(order).falls(one, other))
        self.assertIs(False, Ranks(order).falls(other, one))
        self.bears(order, Ranks(order).why(one, other), one, other)


class WhyTest(TreeCase):
    def test_trees(self):
        # Of each of these just one tree can be told.
        for order, one, other, tree in (
            ("a/0 f/1", "f(a)", "a", ("part", 0, None)),
            ("f/1", "f(?0)", "?0", ("part", 0, None)),
            ("g/2", "g(?0,?1)", "?1", ("part", 1, None)),
            ("f/1", "f(f(?0))", "?0", ("part", 0, ("part", 0, None))),
            ("g/2 f/1", "g(?1,f(?0))", "?0", ("part", 1, ("part", 0, None))),
            ("a/0 b/0", "a", "b", ("head", [])),
            ("f/1 g/2", "f(?0)", "g(?0,?0)", ("head", [("part", 0, None), ("part", 0, None)])),
            ("h/2 g/2", "h(?0,?1)", "g(?1,g(?1,?0))", (
                "head", [("part", 1, None), ("head", [("part", 1, None), ("part", 0, None)])],
            )),
            ("g/2 a/0 b/0", "g(a,?0)", "g(b,?0)", ("row", 0, ("head", []), [("part", 1, None)])),
            ("g/2 a/0 b/0", "g(?0,a)", "g(?0,b)", ("row", 1, ("head", []), [])),
            ("g/2 f/1", "g(f(?0),?1)", "g(?0,?1)", ("row", 0, ("part", 0, None), [("part", 1, None)])),
            ("h/3 a/0 b/0", "h(?0,a,?1)", "h(?0,b,?1)", ("row", 1, ("head", []), [("part", 2, None)])),
            ("b/0 a/0", "a", "b", None),
            ("a/0", "a", "a", None),
            ("a/0", "?0", "a", None),
            ("a/0", "a", "?0", None),
            ("f/1", "f(?0)", "?1", None),
        ):
            with self.subTest((order, one, other)):
                self.assertEqual(tree, ranked(order).why(read(one), read(other)))

    def test_one_of_several_trees(self):
        told = ranked("f/1").why(read("f(f(?0))"), read("f(?0)"))
        self.assertIn(told, [("part", 0, None), ("row", 0, ("part", 0, None), [])])
        told = ranked("f/1 a/0").why(read("f(a)"), read("a"))
        self.assertIn(told, [("part", 0, None), ("head", [])])

    def test_each_list_of_a_tree_is_its_own(self):
        paper = ranked("f/1 g/2 a/0")
        one, other = read("f(f(?0))"), read("g(g(g(?0,a),g(?0,a)),g(g(?0,a),g(?0,a)))")
        tree = paper.why(one, other)
        self.bears(paper.told(), tree, one, other)
        found = self.lists(tree)
        self.assertEqual(len(found), len({id(each) for each in found}))
        self.assertGreater(len(found), 7)
        was = copy.deepcopy(tree)
        for each in found:
            each.append("more")
        self.assertEqual(was, paper.why(one, other))

    def lists(self, thing):
        found = [thing] if isinstance(thing, list) else []
        if isinstance(thing, (list, tuple)):
            for each in thing:
                found.extend(self.lists(each))
        return found


class LetsTest(unittest.TestCase):
    def test_lets(self):
        rules = ruled(*SUMS)
        self.assertIs(True, ranked("mul/2 add/2 s/1 n/0").lets(rules))
        self.assertIs(True, ranked("mul/2 add/2 n/0 s/1").lets(rules))
        self.assertIs(False, ranked("add/2 mul/2 s/1 n/0").lets(rules))
        self.assertIs(False, ranked("mul/2 s/1 add/2 n/0").lets(rules))
        self.assertIs(True, ranked("k/2 s/1 n/0").lets(ruled(*ACK)))
        self.assertIs(False, ranked("s/1 k/2 n/0").lets(ruled(*ACK)))
        self.assertIs(True, ranked("x/0 mul/2 y/3 add/2 s/1 n/0").lets(rules))

    def test_each_rule_is_to_fall(self):
        paper = ranked("f/1 a/0 b/0")
        good, bad = "f(?0)>?0", "b>a"
        self.assertIs(True, paper.lets(ruled(good, good)))
        for texts in ((bad,), (good, bad), (bad, good), (good, bad, good)):
            self.assertIs(False, paper.lets(ruled(*texts)))
        self.assertIs(False, paper.lets(ruled("f(?0)>f(?0)")))

    def test_no_rules(self):
        self.assertIs(True, Ranks([]).lets(Rules([])))
        self.assertIs(True, Ranks(HEADS).lets(Rules([])))

    def test_no_head_in_any_term_of_the_rules(self):
        paper = ranked("f/1 a/0 b/0")
        for texts in (("c>a",), ("a>c",), ("f(?0)>?0", "f(c)>a"), ("b>a", "f(a)>f(c)"), ("b>a", "c>a"), ("f(?0)>f(c)",), ("f(a,a)>a",)):
            refused(self, NoHead, paper.lets, ruled(*texts))
        refused(self, NoHead, Ranks([]).lets, ruled("a>a"))


class RanksOfTest(unittest.TestCase):
    def test_ranks_of(self):
        for texts, told in (
            ([], []),
            (["a>b"], [("a", 0), ("b", 0)]),
            (["b>a"], [("b", 0), ("a", 0)]),
            (["f(?0)>?0"], [("f", 1)]),
            (SUMS, [("mul", 2), ("add", 2), ("n", 0), ("s", 1)]),
            (ACK, [("k", 2), ("n", 0), ("s", 1)]),
            (["f(f(?0))>g(?0)", "g(?0)>a"], [("f", 1), ("g", 1), ("a", 0)]),
            (["f(f(?0))>g(f(?0))"], [("f", 1), ("g", 1)]),
            (["a>f(b,b)", "b>c"], [("a", 0), ("b", 0), ("c", 0), ("f", 2)]),
            (["f(?0,?1)>f(?1)"], [("f", 2), ("f", 1)]),
        ):
            with self.subTest(texts):
                found = ranks_of(ruled(*texts))
                self.assertIs(Ranks, type(found))
                self.assertEqual(told, found.told())
                self.assertIs(True, found.lets(ruled(*texts)))

    def test_none(self):
        for texts in (["a>a"], ["a>b", "b>a"], ["f(?0)>f(f(?0))"], ["g(?0,?1)>g(?1,?0)"], ["f(f(?0))>f(g(f(?0)))", "g(?0)>f(?0)"]):
            self.assertIsNone(ranks_of(ruled(*texts)))

    def test_the_least_order_of_all(self):
        pool = [
            "f(?0)>g(?0,?0)", "g(?0,?1)>f(?1)", "g(f(?0),?1)>g(?0,f(?1))", "a>b", "f(a)>b", "f(b)>f(f(a))", "g(a,?0)>f(?0)",
            "b>f(a)", "g(?0,?1)>?0", "f(f(?0))>f(?0)", "g(?0,g(?1,?2))>g(g(?0,?1),?2)", "c>g(a,a)", "d>c", "f(c)>d",
        ]
        outcomes = {"none": 0, "found": 0}
        for texts in itertools.chain(itertools.combinations(pool, 2), itertools.combinations(pool[3:], 3)):
            rules = ruled(*texts)
            expected = None
            for order in itertools.permutations(rules.heads_of()):
                if all(falls_by_words(order, left, right) for left, right in rules.told()):
                    expected = list(order)
                    break
            found = ranks_of(rules)
            self.assertEqual(expected, found and found.told(), texts)
            outcomes["found" if found else "none"] += 1
        self.assertGreater(min(outcomes.values()), 20)

    def test_six_heads_and_no_more(self):
        names = "abcdefg"
        falling = [f"{name}>{names[number + 1]}" for number, name in enumerate(names[:5])]
        self.assertEqual([(name, 0) for name in names[:6]], ranks_of(ruled(*falling)).told())
        rising = [f"{names[number + 1]}>{name}" for number, name in enumerate(names[:5])]
        self.assertEqual([(name, 0) for name in reversed(names[:6])], ranks_of(ruled(*rising)).told())
        self.assertIsNone(ranks_of(ruled(*falling, "f>a")))
        refused(self, TooMany, ranks_of, ruled(*falling, "f>g"))
        refused(self, TooMany, ranks_of, ruled(*falling, "f(?0)>?0"))
        # Of more heads it is refused even where nothing could be found.
        refused(self, TooMany, ranks_of, ruled("a>a", *falling, "f>g"))
        refused(self, TooMany, ranks_of, ruled("h(a,b,c,d,e,f)>a"))

    def test_each_step_leads_to_a_term_to_which_the_one_before_falls(self):
        for texts, leaves, names in (
            (SUMS, (0, ("n",)), (("add", 2), ("s", 1), ("mul", 2))),
            (ACK, (0, ("n",)), (("k", 2), ("s", 1))),
            (["g(f(?0),?1)>g(?0,f(?1))", "g(?0,?1)>f(?1)"], (0, 1), (("f", 1), ("g", 2))),
        ):
            rules = ruled(*texts)
            paper = ranks_of(rules)
            count = 0
            for term in small_terms(3, leaves, names):
                for step in rules.steps(term):
                    self.assertIs(True, paper.falls(term, step[2]))
                    count += 1
            self.assertGreater(count, 40)


class OwnTest(unittest.TestCase):
    def test_nothing_handed_in_is_changed(self):
        handed = list(HEADS)
        paper = Ranks(handed)
        paper.falls(("f", A), B)
        paper.told().clear()
        self.assertEqual(HEADS, handed)
        rules = ruled(*SUMS)
        was = rules.told()
        ranks_of(rules)
        self.assertEqual(was, rules.told())
        odd = [("a", 0), ["b", 0], {"c": [0]}]
        was = copy.deepcopy(odd)
        refused(self, NoPaper, Ranks, odd)
        self.assertEqual(was, odd)

    def test_a_later_change_of_what_was_handed_in_changes_nothing(self):
        handed = list(HEADS)
        paper = Ranks(handed)
        handed.reverse()
        handed.append(("z", 0))
        self.assertEqual(HEADS, paper.told())
        self.assertIs(True, paper.falls(A, B))
        self.assertIs(False, paper.falls(B, A))
        refused(self, NoHead, paper.falls, A, ("z",))

    def test_what_is_told_is_the_askers_own(self):
        paper = Ranks(HEADS)
        told = paper.told()
        told.reverse()
        told.append(("z", 0))
        self.assertEqual(HEADS, paper.told())
        self.assertIs(True, paper.falls(A, B))
        found = ranks_of(ruled("a>b"))
        found.told().clear()
        self.assertEqual([("a", 0), ("b", 0)], found.told())
        self.assertEqual([("a", 0), ("b", 0)], ranks_of(ruled("a>b")).told())
        self.assertEqual([("a", 0), ("b", 0)], ruled("a>b").heads_of())


if __name__ == "__main__":
    unittest.main()
