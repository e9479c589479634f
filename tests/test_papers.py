import inspect
import unittest

from endwise.papers import Paper
from endwise.rules import Rules
from helper import deep, small_terms

A = ("a",)


class PaperTest(unittest.TestCase):
    def test_names_and_arguments(self):
        self.assertEqual([], list(inspect.signature(Paper).parameters))
        self.assertEqual(["self", "one", "other"], list(inspect.signature(Paper.falls).parameters))
        self.assertEqual(["self", "rules"], list(inspect.signature(Paper.lets).parameters))

    def test_nothing_falls_by_a_plain_paper(self):
        for one in small_terms(2):
            for other in small_terms(2):
                self.assertIs(False, Paper().falls(one, other))
        self.assertIs(False, Paper().falls(deep(60), A))

    def test_a_plain_paper_lets_only_the_empty_list_of_rules(self):
        self.assertIs(True, Paper().lets(Rules([])))
        self.assertIs(False, Paper().lets(Rules([(A, A)])))
        self.assertIs(False, Paper().lets(Rules([(("f", 0), 0)])))
        self.assertIs(False, Paper().lets(Rules([(("f", 0), 0)] * 40)))

    def test_a_paper_lets_rules_where_each_left_side_falls_to_its_right_side(self):
        class Shorter(Paper):
            def falls(self, one, other):
                return len(str(one)) > len(str(other))

        self.assertIs(True, Shorter().lets(Rules([(("f", 0), 0), (("f", A), A)])))
        self.assertIs(False, Shorter().lets(Rules([(("f", 0), 0), (A, ("f", A))])))
        self.assertIs(False, Shorter().lets(Rules([(A, ("f", A)), (("f", 0), 0)])))
        self.assertIs(False, Shorter().lets(Rules([(A, A)])))


if __name__ == "__main__":
    unittest.main()
