"""That answers hang on nothing but what is handed in: points 1 and 2 over all that there is."""

import os
import subprocess
import sys
import unittest

ROOT = os.path.dirname(os.path.dirname(os.path.abspath(__file__)))

# Prints the answers of all functions, asked from the last to the first where told so.
ASKED = """
import sys
sys.path.insert(0, {root!r})
from endwise import calls, fits, houses, loops, numbers, overlaps, ranks, reasons, rules, terms, texts
from endwise.desk import Desk
from endwise.errors import EndError
from endwise.papers import Paper
TERM = ("f", ("k",), 7, ("g", 12, ("h", 7, ("a", 3), ("b",), ("c", ("d",), ("e", 999)))))
SUMS = rules.Rules([tuple(map(texts.read, text.split(">"))) for text in (
    "add(n,?0)>?0", "add(s(?0),?1)>s(add(?0,?1))", "dbl(?0)>add(?0,?0)", "inf(?0)>inf(s(?0))", "big(?0)>tri(?0,?0,?0)",
)])
FOUND = rules.Rules(SUMS.told()[:3])
DOUBLED = texts.read("dbl(add(s(s(n)),dbl(?4)))")
PAPER = ranks.Ranks([("dbl", 1), ("add", 2), ("s", 1), ("n", 0)])
asked = [(getattr(terms, name), (TERM,)) for name in ("head", "levels", "count_parts", "blanks", "heads", "paths", "is_term")]
asked += [(terms.part, (TERM, (2, 1))), (terms.part, (TERM, (5,))), (terms.put, (TERM, (2, 1, 0), TERM))]
asked += [(terms.filled, (TERM, {{7: 3, 3: TERM, 12: 7}})), (terms.anew, ([("f", 3, 1), TERM],)), (terms.is_head, (("a", 9),))]
asked += [(texts.shown, (TERM,)), (texts.read, ("f(a,?0,g(?12))",)), (texts.read, ("f(a",)), (terms.is_name, ("abc",))]
asked += [(terms.is_whole, (5,)), (fits.fit, (("f", 3, 2, 1), TERM)), (fits.fit, (("f", 3, 3, 1), TERM))]
asked += [(fits.joint, (("f", 9, 8, 9, 4), ("f", ("g", 5), 6, ("g", 8), 3))), (fits.joint, (0, TERM)), (fits.joint, (7, TERM))]
asked += [(rules.Rules, ([(0, 1)],)), (SUMS.told, ()), (SUMS.heads_of, ()), (SUMS.steps, (DOUBLED,)), (SUMS.end, (DOUBLED,))]
asked += [(SUMS.walked, (DOUBLED, [((0, 1), 2), ((), 2)])), (SUMS.walked, (DOUBLED, [((), 1)])), (SUMS.end, (DOUBLED, 3))]
asked += [(SUMS.end, (("inf", 0),)), (Paper().falls, (TERM, 7)), (Paper().lets, (SUMS,)), (PAPER.told, ())]
asked += [(PAPER.falls, (DOUBLED, ("n",))), (PAPER.why, (DOUBLED, ("add", ("s", ("n",)), 4))), (PAPER.lets, (FOUND,))]
asked += [(PAPER.lets, (SUMS,)), (lambda: ranks.ranks_of(FOUND).told(), ()), (ranks.ranks_of, (SUMS,))]
asked += [(ranks.Ranks, ([("a", 10)],))]
COUNTED = rules.Rules(FOUND.told()[:2])
WORTH = numbers.numbers_of(COUNTED)
asked += [(WORTH.told, ()), (WORTH.value, (DOUBLED[1], {{4: 9}})), (WORTH.form, (("add", 5, ("s", ("add", 9, 5))),)), (WORTH.lets, (FOUND,))]
asked += [(WORTH.falls, (("add", ("s", 0), 1), ("s", ("add", 0, 1)))), (WORTH.count, (("add", 0, 1),)), (numbers.numbers_of, (SUMS,))]
asked += [(numbers.Numbers, ([(("a", 1), [(1, (0,))])],)), (WORTH.value, (TERM,)), (calls.calls, (SUMS,)), (calls.Calls, ([(("a", 0), 0)],))]
asked += [(lambda: calls.calls_of(FOUND).told(), ()), (calls.calls_of, (SUMS,)), (calls.Calls([(("s", 1), 0)]).lets, (FOUND,))]
asked += [(calls.Calls([(("s", 1), 0)]).falls, (("s", ("s", 4)), ("s", 4))), (overlaps.overlaps, (SUMS,)), (overlaps.unlike_ends, (SUMS,))]
LAPPED = rules.Rules(FOUND.told() + [(("add", 7, ("n",)), 7), (("add", ("s", 3), 2), ("dbl", 2)), (("dbl", ("dbl", 1)), ("f", 1))])
asked += [(overlaps.overlaps, (LAPPED,)), (overlaps.unlike_ends, (LAPPED,))]
asked += [(loops.loop, (SUMS,)), (loops.loop, (FOUND,)), (loops.loop, (rules.Rules(SUMS.told()[3:] + [(("a",), ("big", ("a",)))]),))]
asked += [(loops.chain, (SUMS, DOUBLED, ("add", ("dbl", ("s", ("n",))), 5))), (loops.chain, (SUMS, DOUBLED, ("add", DOUBLED, ("n",))))]
ONE, OTHER = texts.read("g(f(a),h(b,c,d))"), texts.read("g(b,h(c,d,a))")
PAIRS = [tuple(map(texts.read, text.split("="))) for text in ("f(f(f(a)))=a", "f(f(f(f(f(a)))))=a", "a=b", "c=d", "f(c)=f(b)", "h(a,c,d)=d", "d=a")]
HOUSE = houses.House(PAIRS)
asked += [(houses.beyond, (ONE, OTHER)), (HOUSE.told, ()), (HOUSE.rules_of, ()), (HOUSE.least, (ONE,)), (HOUSE.alike, (ONE, OTHER))]
asked += [(HOUSE.reason, (ONE, OTHER)), (HOUSE.reason, (ONE, ("z",))), (houses.House, ([(0, 0)],)), (reasons.borne, ([("told", 9)], PAIRS))]
asked += [(lambda: reasons.borne(HOUSE.reason(ONE, OTHER), PAIRS), ()), (reasons.borne, ([("told", 2), ("back", 0)], PAIRS))]
LINES = ["rules y f(f(?0))>g(?0) a>b", "rules x b>a c>a", "names", "told y", "steps y f(f(a))", "end y f(f(a))", "same x b c", "ranks y"]
LINES += ["count y f(a)", "calls y", "ends y", "overlaps y", "steady y", "drop x", "names"]
def said():
    desk = Desk()
    return [desk.say(line) for line in LINES]
asked += [(said, ()), (Desk().say, ("names x",)), (Desk().say, ("told x",)), (Desk().say, (None,))]
told = {{}}
for number in sorted(range(len(asked)), reverse={reverse}):
    deed, handed = asked[number]
    try:
        told[number] = repr(deed(*handed))
    except EndError as error:
        told[number] = error.__class__.__name__
print([told[number] for number in range(len(asked))])
"""


def answers(seed, reverse):
    program = ASKED.format(root=ROOT, reverse=reverse)
    environment = dict(os.environ, PYTHONHASHSEED=str(seed), PYTHONDONTWRITEBYTECODE="1")
    done = subprocess.run([sys.executable, "-c", program], env=environment, capture_output=True, text=True, check=True)
    return done.stdout


class WholeTest(unittest.TestCase):
    def test_neither_chance_nor_the_order_of_asking_changes_an_answer(self):
        told = answers(0, False)
        for refusal in ("NoPath", "NoText", "NoRule", "NoStep", "NoPaper", "NoHead", "NoPair", "NoReason", "TooMany", "TooGreat", "TooLong", "NoName", "NoLine"):
            self.assertIn(refusal, told)
        for seed in range(1, 5):
            self.assertEqual(told, answers(seed, seed % 2 == 1))


if __name__ == "__main__":
    unittest.main()
