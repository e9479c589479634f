import inspect
import itertools
import unittest

from endwise.calls import calls_of
from endwise.desk import Desk
from endwise.errors import EndError, NoHead, NoLine, NoName, NoText, TooGreat, TooLong, TooMany
from endwise.loops import loop
from endwise.numbers import numbers_of
from endwise.overlaps import overlaps, unlike_ends
from endwise.ranks import ranks_of
from endwise.texts import read, shown
from helper import ACK, SUMS, REFUSALS, deep, refused, ruled, strange_things, wide

ADD = SUMS[:2]
# What stands behind the first word: n a name, k a name by which rules stand, t a term.
FORMS = {
    "drop": "k", "names": "", "told": "k", "steps": "kt", "end": "kt", "same": "ktt", "ranks": "k", "count": "kt", "calls": "k", "ends": "k",
    "overlaps": "k", "steady": "k",
}


def desk(*lines):
    made = Desk()
    for line in lines:
        made.say(line)
    return made


def kept(*texts):
    """A desk on which these rules stand by the name x."""
    return desk(" ".join(("rules", "x") + texts))


class InterfaceTest(unittest.TestCase):
    def test_names_and_arguments(self):
        self.assertEqual([], list(inspect.signature(Desk).parameters))
        self.assertEqual(["self", "line"], list(inspect.signature(Desk.say).parameters))


class LinesTest(unittest.TestCase):
    def says(self, made, line, answer):
        found = made.say(line)
        self.assertIs(str, type(found))
        self.assertEqual(answer, found, line)

    def test_rules_and_told_and_names_and_drop(self):
        made = Desk()
        self.says(made, "names", "")
        self.says(made, "rules sums " + " ".join(ADD), "2")
        self.says(made, "told sums", " ".join(ADD))
        self.says(made, "rules none", "0")
        self.says(made, "told none", "")
        self.says(made, "rules abcdefgh f(a,?12)>?12", "1")
        self.says(made, "told abcdefgh", "f(a,?12)>?12")
        self.says(made, "names", "abcdefgh none sums")
        self.says(made, "rules sums a>b", "1")
        self.says(made, "told sums", "a>b")
        self.says(made, "rules b a>b a>b a>b", "3")
        self.says(made, "told b", "a>b a>b a>b")
        self.says(made, "names", "abcdefgh b none sums")
        self.says(made, "drop none", "ok")
        self.says(made, "names", "abcdefgh b sums")
        refused(self, NoName, made.say, "told none")
        refused(self, NoName, made.say, "drop none")
        self.says(made, "rules none", "0")
        for name in ("none", "sums", "abcdefgh", "b"):
            self.says(made, "drop " + name, "ok")
        self.says(made, "names", "")

    def test_names_may_be_like_first_words(self):
        made = desk("rules rules a>b", "rules names b>c", "rules drop c>d")
        self.says(made, "names", "drop names rules")
        self.says(made, "told names", "b>c")
        self.says(made, "drop drop", "ok")
        self.says(made, "names", "names rules")

    def test_steps(self):
        made = kept("a>b", "f(?0)>g(?0,?0)", "a>f(c)")
        self.says(made, "steps x f(a)", "g(a,a) f(b) f(f(c))")
        self.says(made, "steps x ?7", "")
        self.says(made, "steps x f(?7)", "g(?7,?7)")
        self.says(made, "steps x z(b)", "")

    def test_end(self):
        made = kept(*SUMS)
        self.says(made, "end x add(s(n),?5)", "s(?5)")
        self.says(made, "end x mul(s(s(n)),s(s(s(n))))", "s(s(s(s(s(s(n))))))")
        self.says(made, "end x ?0", "?0")
        self.says(made, "end x z", "z")

    def test_end_by_at_most_two_hundred_steps(self):
        downs = [f"{name}(f(?0))>{name}(?0)" for name in "cdeh"]

        def term(last):
            return "t(" + ",".join(f"{name}({shown(deep(count))})" for name, count in zip("cdeh", (50, 50, 50, last))) + ")"

        made = kept(*downs)
        self.says(made, "end x " + term(50), "t(c(a),d(a),e(a),h(a))")
        refused(self, TooLong, made.say, "end x " + term(51))
        self.says(made, f"same x {term(50)} {term(49)}", "yes")
        refused(self, TooLong, made.say, f"same x {term(51)} {term(49)}")
        refused(self, TooLong, made.say, f"same x {term(49)} {term(51)}")

    def test_same(self):
        made = kept(*ADD)
        self.says(made, "same x add(s(n),n) add(n,s(n))", "yes")
        self.says(made, "same x add(s(n),n) add(n,n)", "no")
        self.says(made, "same x ?0 ?0", "yes")
        self.says(made, "same x ?0 ?1", "no")
        made = kept("h(?0)>h(?0)", "k(?0)>k(f(?0))")
        refused(self, TooLong, made.say, "same x h(a) k(a)")
        refused(self, TooGreat, made.say, "same x k(a) h(a)")
        refused(self, TooGreat, made.say, "same x a k(a)")

    def test_ranks(self):
        self.says(kept(*SUMS), "ranks x", "mul/2 add/2 n/0 s/1")
        self.says(kept("a>b"), "ranks x", "a/0 b/0")
        self.says(kept("a>a"), "ranks x", "none")
        self.says(kept(), "ranks x", "")
        self.says(kept("w(?0,?1,?2,?3,?4,?5,?6,?7,?8)>?3"), "ranks x", "w/9")
        refused(self, TooMany, kept("a>b", "c>d", "e>f", "g>g").say, "ranks x")
        self.says(kept("a>b", "c>d", "e>f"), "ranks x", "a/0 b/0 c/0 d/0 e/0 f/0")

    def test_count(self):
        made = kept(*ADD)
        self.says(made, "count x add(s(n),n)", "4")
        self.says(made, "count x n", "0")
        self.says(made, "count x ?3", "0")
        refused(self, NoHead, made.say, "count x z")
        refused(self, NoHead, made.say, "count x add(n)")
        self.says(kept("a>a"), "count x a", "none")
        # No numbers are found: no head is asked for.
        self.says(kept("a>a"), "count x z", "none")
        self.says(kept(), "count x ?0", "0")
        refused(self, NoHead, kept().say, "count x a")
        refused(self, TooMany, kept("a>b", "c>d", "e>f", "g>h").say, "count x a")
        refused(self, TooMany, kept("a>b", "c>d", "e>f", "g>h").say, "count x z")

    def test_a_count_of_many_figures(self):
        made = kept("h(?0)>f(?0)", "f(?0)>i(?0)", "i(?0)>?0")
        paper = numbers_of(ruled("h(?0)>f(?0)", "f(?0)>i(?0)", "i(?0)>?0"))
        term = ("h", deep(57, ("h", 0)))
        self.says(made, "count x " + shown(term), str(paper.count(term)))
        self.assertGreater(paper.count(term), 10 ** 15)

    def test_calls(self):
        self.says(kept(*SUMS), "calls x", "add/2:0 mul/2:0")
        self.says(kept("g(?0,f(?1))>g(f(?0),?1)"), "calls x", "g/2:1")
        self.says(kept("a>b"), "calls x", "")
        self.says(kept(), "calls x", "")
        self.says(kept("a>a"), "calls x", "none")
        many = [f"n{letter}(?0,?1,?2,?3,?4,?5,?6,?7,s(?8))>n{letter}(?0,?1,?2,?3,?4,?5,?6,?7,?8)" for letter in "abcd"]
        self.says(kept(*many[:3]), "calls x", "na/9:8 nb/9:8 nc/9:8")
        refused(self, TooMany, kept(*many).say, "calls x")

    def test_ends(self):
        for texts, answer in (
            ([], "yes"),
            (SUMS, "yes"),
            (ACK, "yes"),
            (["a>a"], "loop a"),
            (["f(?3)>g(f(?3))"], "loop f(?3)"),
            (["a>b", "b>f(b)"], "loop b"),
            (["f(f(?0))>f(g(f(?0)))", "g(?0)>f(?0)"], "loop f(f(?0))"),
        ):
            self.says(kept(*texts), "ends x", answer)

    def test_ends_by_each_kind_of_paper(self):
        found = {}
        pool = [
            "f(f(?0))>f(g(f(?0)))", "g(?0,?1)>g(?1,a)", "f(a)>g(b,b)", "g(a,?0)>g(?0,b)", "f(?0)>h(?0,a)", "h(f(?0),?1)>h(?0,f(?1))",
            "h(?0,f(?1))>h(f(?1),?1)", "g(f(?0),?1)>f(f(g(?0,?1)))", "f(b)>g(a,f(a))", "b>a", "h(?0,?1)>f(?0)", "g(f(?0),?1)>g(?0,g(f(?1),?1))",
        ]
        for texts in itertools.chain(itertools.combinations(pool, 1), itertools.combinations(pool, 2)):
            rules = ruled(*texts)
            try:
                name, expected = self.ends_by_words(rules)
            except EndError as error:
                refused(self, type(error), kept(*texts).say, "ends x")
                continue
            found[name] = found.get(name, 0) + 1
            self.says(kept(*texts), "ends x", expected)
        self.assertEqual(["calls", "loop", "numbers", "open", "ranks"], sorted(found), found)

    def ends_by_words(self, rules):
        for name, sought in (("ranks", ranks_of), ("numbers", numbers_of), ("calls", calls_of)):
            if sought(rules) is not None:
                return (name, "yes")
        told = loop(rules)
        return ("open", "open") if told is None else ("loop", "loop " + shown(told[0]))

    def test_ends_with_the_refusals_of_what_is_sought(self):
        # Seven heads: the ranks are refused, though there would be numbers or calls.
        refused(self, TooMany, kept("a>b", "c>d", "e>f", "g>h").say, "ends x")
        # Few enough for ranks, which are not found; too many choices of numbers.
        refused(self, TooMany, kept("a>a", "w(?0,?1,?2,?3,?4,?5,?6,?7,?8)>b").say, "ends x")
        # Where ranks are found, nothing else is sought.
        self.says(kept("w(?0,?1,?2,?3,?4,?5,?6,?7,?8)>b"), "ends x", "yes")
        refused(self, TooMany, kept("w(?0,?1,?2,?3,?4,?5,?6,?7,?8)>b").say, "count x b")
        # Nothing is found, and the loop is refused.
        refused(self, TooGreat, kept("p>c(b)", "c(?0)>c(g(?0,?0))").say, "ends x")
        self.says(kept("c(?0)>c(g(?0,?0))", "p>c(b)"), "ends x", "loop c(?0)")

    def test_overlaps(self):
        for texts in ([], ADD, ["a>b", "a>c"], ["f(f(?0))>g(?0)"], ["m(m(?0,?1),?2)>m(?0,m(?1,?2))", "m(e,?0)>?0", "m(?0,e)>?0"]):
            self.says(kept(*texts), "overlaps x", str(len(overlaps(ruled(*texts)))))
        self.says(kept("a>b", "a>c", "a>d"), "overlaps x", "6")
        great = [f"f(g(?0,?0))>a", f"g({shown(deep(58))},?1)>a"]
        refused(self, TooGreat, kept(*great).say, "overlaps x")
        refused(self, TooGreat, kept(*great).say, "steady x")

    def test_steady(self):
        for texts, answer in (
            ([], "yes"),
            (SUMS, "yes"),
            (["f(f(?0))>f(?0)"], "yes"),
            (["f(f(?0))>g(?0)"], "f(f(f(?0))) g(f(?0)) f(g(?0))"),
            (["a>b", "a>c", "c>d"], "a b d"),
            (["f(a)>b", "a>c", "b>d", "f(c)>e", "e>h"], "f(a) d h"),
            (["f(?9,?3)>?3", "f(?3,?9)>?3"], "f(?0,?1) ?1 ?0"),
        ):
            self.says(kept(*texts), "steady x", answer)
            self.assertEqual(answer == "yes", unlike_ends(ruled(*texts)) is None)
        refused(self, TooLong, kept("u>h(a)", "u>b", "h(?0)>h(?0)").say, "steady x")
        refused(self, TooGreat, kept("u>k(a)", "u>b", "k(?0)>k(f(?0))").say, "steady x")


class RefusedTest(unittest.TestCase):
    def line(self, first, handed):
        return " ".join([first] + handed)

    def test_what_is_no_text(self):
        for thing in strange_things() + [0, 1, ["names"], ("names",), {"names": 0}, b"names", {"names"}]:
            with self.subTest(repr(thing)):
                refused(self, NoLine, Desk().say, thing)

    def test_what_is_no_line(self):
        for line in (
            "", " ", "  ", "name", "Names", "NAMES", "names ", " names", "names  ", "names x", "nam es", "names\n", "names\t", "\nnames", "rules",
            "drop", "told", "steps", "end", "same", "ranks", "count", "calls", "ends", "overlaps", "steady", "x", "rule x", "?0", "loop x", "chain x a b",
            "rules\tx", "told\nx", "help", "told x x", "drop x x", "rulesx", "a>b",
        ):
            with self.subTest(repr(line)):
                refused(self, NoLine, kept("a>b").say, line)

    def test_the_number_of_words(self):
        made = kept("a>b")
        for first, form in FORMS.items():
            for count in range(6):
                handed = ["x", "a", "a", "a", "a"][:count]
                if count != len(form):
                    refused(self, NoLine, made.say, self.line(first, handed))
            # Words without signs count as words.
            if form:
                refused(self, NoLine, made.say, self.line(first, ["x", "a", "a"][:len(form)]) + " ")
                refused(self, NoLine, made.say, self.line(first + " ", ["x", "a", "a"][:len(form)]))
                refused(self, NoLine, made.say, " " + self.line(first, ["x", "a", "a"][:len(form)]))

    def test_twenty_rules_and_no_more(self):
        made = Desk()
        self.assertEqual("20", made.say("rules x" + " a>b" * 20))
        refused(self, NoLine, made.say, "rules x" + " a>b" * 21)
        refused(self, NoLine, made.say, "rules x" + " a>b" * 40)
        refused(self, NoLine, made.say, "rules X" + " zz" * 21)
        self.assertEqual(" ".join(["a>b"] * 20), made.say("told x"))

    def test_words_without_signs(self):
        made = kept("a>b")
        refused(self, NoName, made.say, "rules ")
        refused(self, NoName, made.say, "rules  a>b")
        refused(self, NoText, made.say, "rules x ")
        refused(self, NoText, made.say, "rules x  a>b")
        refused(self, NoText, made.say, "rules x a>b ")
        refused(self, NoName, made.say, "told ")
        refused(self, NoName, made.say, "drop ")
        refused(self, NoName, made.say, "steps  a")
        refused(self, NoText, made.say, "steps x ")
        refused(self, NoText, made.say, "same x  a")
        refused(self, NoText, made.say, "same x a ")
        self.assertEqual("a>b", made.say("told x"))

    def test_names(self):
        made = kept("a>b")
        for name in ("X", "abcdefghi", "x1", "1", "?0", "f(a)", "x\n", "x\t", "-", "a>b"):
            refused(self, NoName, made.say, "rules " + name)
            refused(self, NoName, made.say, f"rules {name} a>b")
            for first, form in FORMS.items():
                if form:
                    refused(self, NoName, made.say, self.line(first, [name, "a", "a"][:len(form)]))
        # A name by which no rules stand; it is only told by rules.
        for first, form in FORMS.items():
            if form:
                refused(self, NoName, made.say, self.line(first, ["y", "a", "a"][:len(form)]))
        self.assertEqual("0", made.say("rules y"))

    def test_terms(self):
        made = kept("a>b")
        for text in ("A", "?", "?01", "f(", "f()", "f(a", "a)", "f(a,)", "?1000", "abcdefghi", "a\n", "a>b", shown(deep(60)), shown(wide(1001))):
            for first, form in FORMS.items():
                for place in range(1, len(form)):
                    handed = ["x", "a", "a"][:len(form)]
                    handed[place] = text
                    refused(self, NoText, made.say, self.line(first, handed))
        self.assertEqual(shown(deep(59)), kept("z>b").say("end x " + shown(deep(59))))
        self.assertEqual(shown(wide(1000)), kept("z>b").say("end x " + shown(wide(1000))))

    def test_rules(self):
        made = kept("a>b")
        for word in (
            "a", ">", "a>", ">a", "a>b>c", "a>>b", "?0>a", "?0>?0", "a>?0", "f(?0)>?1", "f(?0)>g(?0,?1)", "A>b", "a>B", "f(a>b)", "a=b", "a->b", "a>b,",
            f"{shown(deep(60))}>a", f"a>{shown(deep(60))}", "(a>b)", "a>b\n", "\ta>b", "f(?0)>?1000",
        ):
            refused(self, NoText, made.say, "rules x " + word)
            refused(self, NoText, made.say, "rules y a>b " + word)
            refused(self, NoText, made.say, f"rules y {word} a>b")
        self.assertEqual("x", made.say("names"))
        self.assertEqual("a>b", made.say("told x"))
        self.assertEqual("2", made.say(f"rules x {shown(deep(59))}>a f(?0,?1)>g(?1,?1)"))

    def test_from_the_left(self):
        made = kept("h(?0)>h(?0)")
        # The line goes first, then each word, and then the deed.
        refused(self, NoLine, made.say, "end X ? ?")
        refused(self, NoName, made.say, "end X ?")
        refused(self, NoName, made.say, "end y ?")
        refused(self, NoName, made.say, "same y ? ?")
        refused(self, NoText, made.say, "end x ?")
        refused(self, NoText, made.say, "same x h(a) ?")
        refused(self, NoText, made.say, "same x ? h(a)")
        refused(self, TooLong, made.say, "same x h(a) a")
        refused(self, NoName, made.say, "rules X a>b ?")
        refused(self, NoText, kept("a>b", "c>d", "e>f", "g>h").say, "count x ?")

    def test_what_is_refused_changes_nothing(self):
        made = desk("rules x " + " ".join(ADD), "rules y a>b")
        lines = [
            "rules x a>b ?", "rules x a>?0", "rules X", "rules z ?", "drop z", "drop X", "drop x x", "end y ?", "rules", "rules y" + " c>d" * 21,
            None, "count x z", "rules y ", "names x",
        ]
        for line in lines:
            with self.assertRaises(EndError):
                made.say(line)
            self.assertEqual(["x y", " ".join(ADD), "a>b"], [made.say("names"), made.say("told x"), made.say("told y")])


class WholeTest(unittest.TestCase):
    def test_two_desks_know_nothing_of_one_another(self):
        one, other = desk("rules x a>b"), desk("rules y b>c")
        self.assertEqual(["x", "y"], [one.say("names"), other.say("names")])
        refused(self, NoName, other.say, "told x")
        other.say("rules x c>d")
        self.assertEqual(["a>b", "c>d"], [one.say("told x"), other.say("told x")])
        one.say("drop x")
        self.assertEqual("x y", other.say("names"))

    def test_asking_changes_no_answer(self):
        made = kept(*SUMS)
        lines = ["told x", "steps x mul(s(n),?0)", "end x mul(s(n),n)", "same x n n", "ranks x", "calls x", "ends x", "overlaps x", "steady x", "names"]
        first = [made.say(line) for line in lines]
        self.assertEqual(first[::-1], [made.say(line) for line in reversed(lines)])
        self.assertEqual(first, [made.say(line) for line in lines])

    def test_a_pool_of_rules_as_the_parts_of_the_program_answer(self):
        pool = ["f(f(?0))>f(?0)", "f(?0)>g(?0,?0)", "g(?0,?1)>?1", "a>b", "g(a,?0)>f(?0)", "b>f(a)", "f(b)>f(f(a))"]
        for texts in itertools.chain(itertools.combinations(pool, 2), itertools.combinations(pool, 3)):
            made, rules = kept(*texts), ruled(*texts)
            ranks, numbers, calls = ranks_of(rules), numbers_of(rules), calls_of(rules)
            self.assertEqual("none" if ranks is None else " ".join(f"{name}/{count}" for name, count in ranks.told()), made.say("ranks x"))
            expected = "none" if calls is None else " ".join(f"{name}/{count}:{place}" for (name, count), place in calls.told())
            self.assertEqual(expected, made.say("calls x"))
            term = rules.told()[0][0]
            self.assertEqual("none" if numbers is None else str(numbers.count(term)), made.say("count x " + shown(term)))
            for text in ("f(f(a))", "g(a,f(b))"):
                expected = " ".join(shown(step[2]) for step in rules.steps(read(text)))
                self.assertEqual(expected, made.say("steps x " + text))

    def test_refusals_are_only_the_programs_own(self):
        made = kept(*SUMS)
        words = ["x", "y", "X", "", "a", "?0", "?", "a>b", "add(n,n)", "rules", "\n", "f(", ">"]
        for first in list(FORMS) + ["rules", "", "zz"]:
            for count in range(4):
                for handed in itertools.product(words, repeat=min(count, 2)):
                    line = " ".join([first] + list(handed) + ["a"] * (count - len(handed)))
                    try:
                        self.assertIs(str, type(made.say(line)))
                    except EndError as error:
                        self.assertIn(type(error), REFUSALS)
                    if line.startswith(("rules x", "drop x")):
                        made.say("rules x " + " ".join(SUMS))


if __name__ == "__main__":
    unittest.main()
