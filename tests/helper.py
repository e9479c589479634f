"""What several test files need: things of other kinds, great terms, all small terms."""

import itertools

from endwise import errors
from endwise.rules import Rules
from endwise.texts import read

# Adding and multiplying by s and n, and what outgrows both.
SUMS = ["add(n,?0)>?0", "add(s(?0),?1)>s(add(?0,?1))", "mul(n,?0)>n", "mul(s(?0),?1)>add(mul(?0,?1),?1)"]
ACK = ["k(n,?0)>s(?0)", "k(s(?0),n)>k(?0,s(n))", "k(s(?0),s(?1))>k(?0,k(s(?0),?1))"]


class Stranger:
    """A thing of a class that the program knows nothing of, equal to all."""

    def __eq__(self, other):
        return True

    def __hash__(self):
        return 0


def nested(kind, deep):
    thing = kind()
    for _ in range(deep):
        thing = kind([thing])
    return thing


def strange_things():
    """Things that are no whole numbers, no names, no terms, no heads and no paths but ()."""
    return [
        None, True, False, [], {}, set(), frozenset(), b"", b"a", "", " ", "A", "a b", "?", "a,",
        ["a"], ["a", 0], [0], {"a": 0}, {0: 1}, {0}, range(0), range(2), slice(0, 1), ..., len, int,
        Stranger(), Stranger, ValueError("a"), 2j, bytearray(b"a"), memoryview(b"a"), iter(()),
        (None,), (True,), (False,), ([],), ((),), ("a", None), ("a", True), ("a", False), ("a", "a"),
        ("a", -1), ("a", ["a"]), ("a", ("b", [])), ("a", ("b", True)), (("a",),), (("a",), 0), ("", 0),
        ("A", 0), (b"a", 0), (b"a",), (Stranger(),), (Stranger(), 0), ("a", Stranger()), -1, -10 ** 200,
        nested(list, 150), nested(tuple, 150),
    ]


REFUSALS = [
    errors.NoPath, errors.NoText, errors.NoRule, errors.NoStep, errors.NoPaper, errors.NoHead, errors.NoPair,
    errors.NoReason, errors.TooMany, errors.TooGreat, errors.TooLong, errors.NoName, errors.NoLine,
]


def refused(case, refusal, deed, *handed):
    """The deed is refused with just this class, an EndError and a ValueError and no other named one."""
    with case.assertRaises(errors.EndError) as caught:
        deed(*handed)
    error = caught.exception
    case.assertIsInstance(error, ValueError)
    case.assertEqual([refusal], [named for named in REFUSALS if isinstance(error, named)])


def deep(count, leaf=("a",)):
    """A term of so many levels above the leaf's."""
    term = leaf
    for _ in range(count):
        term = ("f", term)
    return term


def wide(count):
    """A term of just so many parts, of few levels."""
    if count <= 10:
        return ("w",) + (("a",),) * (count - 1)
    each, more = divmod(count - 1, 9)
    return ("w",) + tuple(wide(each + 1 if number < more else each) for number in range(9))


def bush(leaves):
    """A term with just these leaves, from the left, of few levels; two bushes of as many leaves are alike above them."""
    row = list(leaves)
    while len(row) > 1:
        row = [("t",) + tuple(row[start:start + 9]) for start in range(0, len(row), 9)]
    return row[0]


def small_terms(deepest, leaves=(0, 1, ("a",)), names=(("f", 1), ("g", 2))):
    """All terms of at most so many levels over these leaves and heads."""
    found = list(leaves)
    for _ in range(deepest - 1):
        above = list(leaves)
        for name, count in names:
            above.extend((name,) + below for below in itertools.product(found, repeat=count))
        found = above
    return found


def rule(text):
    left, right = text.split(">")
    return (read(left), read(right))


def ruled(*texts):
    return Rules([rule(text) for text in texts])


def many_heads(count):
    """So many unlike heads, up to sixty-four of them."""
    return [("n" + "abcdefgh"[number // 8 % 8] + "abcdefgh"[number % 8], number % 10) for number in range(count)]
