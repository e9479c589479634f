"""That answers hang on nothing but what is handed in: points 1 and 2 over all that there is."""

import os
import subprocess
import sys
import unittest

ROOT = os.path.dirname(os.path.dirname(os.path.abspath(__file__)))

# Prints the answers of all functions, asked from the last to the first where told so.
ASKED = """
import sys
sys.path.insert(0, {root!r})
from endwise.errors import EndError
from endwise import terms, texts
TERM = ("f", ("k",), 7, ("g", 12, ("h", 7, ("a", 3), ("b",), ("c", ("d",), ("e", 999)))))
asked = [(name, (TERM,)) for name in ("head", "levels", "count_parts", "blanks", "heads", "paths", "is_term")]
asked += [("part", (TERM, (2, 1))), ("part", (TERM, (5,))), ("put", (TERM, (2, 1, 0), TERM))]
asked += [("filled", (TERM, {{7: 3, 3: TERM, 12: 7}})), ("anew", ([("f", 3, 1), TERM],)), ("is_head", (("a", 9),))]
asked += [("shown", (TERM,)), ("read", ("f(a,?0,g(?12))",)), ("read", ("f(a",)), ("is_name", ("abc",)), ("is_whole", (5,))]
told = {{}}
for number in sorted(range(len(asked)), reverse={reverse}):
    name, handed = asked[number]
    deed = getattr(terms, name, None) or getattr(texts, name)
    try:
        told[number] = repr(deed(*handed))
    except EndError as error:
        told[number] = error.__class__.__name__
print([told[number] for number in range(len(asked))])
"""


def answers(seed, reverse):
    program = ASKED.format(root=ROOT, reverse=reverse)
    environment = dict(os.environ, PYTHONHASHSEED=str(seed), PYTHONDONTWRITEBYTECODE="1")
    done = subprocess.run([sys.executable, "-c", program], env=environment, capture_output=True, text=True, check=True)
    return done.stdout


class WholeTest(unittest.TestCase):
    def test_neither_chance_nor_the_order_of_asking_changes_an_answer(self):
        told = answers(0, False)
        self.assertIn("NoPath", told)
        self.assertIn("NoText", told)
        for seed in range(1, 5):
            self.assertEqual(told, answers(seed, seed % 2 == 1))


if __name__ == "__main__":
    unittest.main()
