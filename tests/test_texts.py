import inspect
import itertools
import unittest

from endwise import texts
from endwise.errors import NoText
from endwise.terms import count_parts, is_term, levels
from endwise.texts import read, shown
from helper import deep, refused, small_terms, strange_things, wide

WRITTEN = [
    ("?0", 0), ("?1", 1), ("?9", 9), ("?10", 10), ("?12", 12), ("?100", 100), ("?999", 999),
    ("a", ("a",)), ("z", ("z",)), ("abcdefgh", ("abcdefgh",)), ("f(a)", ("f", ("a",))), ("f(?0)", ("f", 0)),
    ("f(a,?0,g(?12))", ("f", ("a",), 0, ("g", 12))), ("f(f(f(f)))", ("f", ("f", ("f", ("f",))))),
    ("f(g(a,b),h(?1,?0))", ("f", ("g", ("a",), ("b",)), ("h", 1, 0))),
    ("f(a,a,a,a,a,a,a,a,?9)", ("f",) + (("a",),) * 8 + (9,)),
]
WRONG = [
    "", " ", "\n", "\t", "?", "?00", "?01", "?007", "?0999", "?1000", "?9999", "?-1", "?+1", "? 1", "?1 ", "?1_0", "??0", "?a",
    "?0a", "a?0", "?0(a)", "?0?1", "0", "12", "A", "aB", "a1", "a_b", "abcdefghi", "f(abcdefghi)", "a b", " a", "a ", "a\n",
    "a()", "f(a,)", "f(,a)", "f(a,,b)", "f(,)", "f(", "f)", "(", ")", "()", "(a)", ",", "a,b", "f(a", "f(a,", "f(a))",
    "f((a))", "f(a)(b)", "f(a)b", "f(a)?0", "f (a)", "f( a)", "f(a )", "f(a, b)", "f[a]", "f{a}", "f(a;b)", "f(a(b)",
    "f(a)b(c)", "f(a,a,a,a,a,a,a,a,a,a)", "f(?1000)", "f(?01)", "f()", "g(f())", "a>b", "None", "('f',)", "f(a,0)", "f(0)",
    "f(a)\n", "\tf(a)", "f(a\n)", "-", "~", "!",
]


class InterfaceTest(unittest.TestCase):
    def test_names_and_arguments(self):
        for name, arguments in {"shown": ["term"], "read": ["text"]}.items():
            self.assertEqual(arguments, list(inspect.signature(getattr(texts, name)).parameters))


class TextsTest(unittest.TestCase):
    def test_shown(self):
        for text, term in WRITTEN:
            self.assertEqual(text, shown(term))

    def test_read(self):
        for text, term in WRITTEN:
            self.assertEqual(term, read(text))
            self.assertTrue(is_term(read(text)))

    def test_each_small_term_is_read_as_it_is_shown(self):
        told = {}
        for term in small_terms(3, (0, 21, ("a",))):
            self.assertEqual(term, read(shown(term)))
            told[shown(term)] = term
        self.assertEqual(len(told), len(set(told.values())))

    def test_all_blanks(self):
        for blank in range(1000):
            self.assertEqual("?" + str(blank), shown(blank))
            self.assertEqual(blank, read("?" + str(blank)))
        for number in range(100):
            refused(self, NoText, read, "?0" + str(number))

    def test_what_is_no_text_of_a_term(self):
        for text in WRONG:
            with self.subTest(text):
                refused(self, NoText, read, text)

    def test_what_is_no_text(self):
        for thing in strange_things() + [0, 999, ("a",), ("f", 0), ["a"], b"a", b"f(a)", {"a": 1}]:
            with self.subTest(repr(thing)):
                refused(self, NoText, read, thing)

    def test_levels(self):
        for leaf in (("a",), 0):
            self.assertEqual(deep(59, leaf), read(shown(deep(59, leaf))))
            refused(self, NoText, read, shown(deep(60, leaf)))
        self.assertEqual(60, levels(read("f(a," * 59 + "a" + ")" * 59)))
        refused(self, NoText, read, "f(a," * 60 + "a" + ")" * 60)

    def test_parts(self):
        self.assertEqual(wide(1000), read(shown(wide(1000))))
        self.assertEqual(1000, count_parts(read(shown(wide(1000)))))
        refused(self, NoText, read, shown(wide(1001)))

    def test_very_deep_and_unfinished_texts(self):
        for text in (
            "f(" * 6000 + "a" + ")" * 6000, "f(" * 9999, "(" * 19999, ")" * 19999, "f(a," * 4999, "a," * 9999,
            "f(" * 59, "f(" * 60, "f(" * 61, "f(" * 59 + "a", "f(" * 59 + "a" + ")" * 58, "f(" * 59 + "a" + ")" * 60,
            "a" * 19999, "?" * 19999, "?" + "1" * 19999, "?" + "0" * 19999, "f(?" + "9" * 9999 + ")", "f" + "(a)" * 5000,
            "f(" + "a," * 9000 + "a)", "," * 19999, " " * 19999,
        ):
            with self.subTest(text[:20]):
                refused(self, NoText, read, text)

    def test_each_begin_of_a_text_is_unfinished(self):
        text = "f(a,g(?0,b),h(c))"
        for count in range(2, len(text)):
            refused(self, NoText, read, text[:count])
            refused(self, NoText, read, text + text[:count])

    def test_all_short_texts(self):
        # What is a text of a term is made here from the terms: the others are refused.
        signs = "a?01(), "
        right = self.short_terms(6)
        for count in range(7):
            for letters in itertools.product(signs, repeat=count):
                text = "".join(letters)
                if text in right:
                    self.assertEqual(right[text], read(text))
                    self.assertEqual(text, shown(right[text]))
                else:
                    with self.assertRaises(NoText, msg=text):
                        read(text)

    def short_terms(self, most):
        found = {"a" * count: ("a" * count,) for count in range(1, most + 1)}
        for number in (0, 1, 10, 11, 100, 101, 110, 111):
            found["?" + str(number)] = number
        names = [text for text in found if text[0] == "a"]
        for _ in range(most):
            for name in names:
                for count in (1, 2, 3):
                    for below in itertools.product(list(found), repeat=count):
                        text = name + "(" + ",".join(below) + ")"
                        if len(text) <= most:
                            found[text] = (name,) + tuple(found[place] for place in below)
        return {text: term for text, term in found.items() if len(text) <= most}


if __name__ == "__main__":
    unittest.main()
