"""Papers of ranks: one term falls to another by an order of the heads."""

from endwise.errors import NoPaper, TooMany
from endwise.papers import Paper, look_for
from endwise.terms import all_heads, head, is_head, places

MOST_RANKED = 60
MOST_ORDERED = 6


class Ranks(Paper):
    def __init__(self, heads):
        if not are_ranks(heads):
            raise NoPaper("ranks are a list of none to sixty unlike heads")
        # From 0 on, the highest first; a dict keeps the order in which they came.
        self.rank = dict([(found, number) for number, found in enumerate(heads)])

    def told(self):
        return list(self.rank)

    def falls(self, one, other):
        look_for(all_heads([one, other]), self.rank)
        return Reckoning(self.rank).way(one, other) is not None

    def lets(self, rules):
        # The heads of all rules first: an early rule that does not fall hides none of them.
        look_for(rules.heads_of(), self.rank)
        for left, right in rules.told():
            if Reckoning(self.rank).way(left, right) is None:
                return False
        return True

    def why(self, one, other):
        look_for(all_heads([one, other]), self.rank)
        return Reckoning(self.rank).tree(one, other)


class Reckoning:
    # Made anew for each call. It keeps how each two parts fall, so that none are
    # reckoned twice: else the work could double with each level.
    def __init__(self, rank):
        self.rank = rank
        self.ways = {}

    def way(self, one, other):
        # The begin of the tree, without the whys in it; None where the one does not fall.
        pair = (one, other)
        if pair not in self.ways:
            self.ways[pair] = self.by_part(one, other) or self.by_head(one, other) or self.by_row(one, other)
        return self.ways[pair]

    def by_part(self, one, other):
        for number, place in enumerate(places(one)):
            if place == other or self.way(place, other) is not None:
                return ("part", number)
        return None

    def by_head(self, one, other):
        if not isinstance(one, tuple) or not isinstance(other, tuple):
            return None
        if self.rank[head(one)] >= self.rank[head(other)]:
            return None
        for place in places(other):
            if self.way(one, place) is None:
                return None
        return ("head",)

    def by_row(self, one, other):
        if not isinstance(one, tuple) or head(one) != head(other) or one == other:
            return None
        number = first_unlike(one, other)
        if self.way(places(one)[number], places(other)[number]) is None:
            return None
        for place in places(other)[number + 1:]:
            if self.way(one, place) is None:
                return None
        return ("row", number)

    def tree(self, one, other):
        # Built from the ways each time it is met, so that no two lists in it are one.
        way = self.way(one, other)
        if way is None:
            return None
        if way[0] == "head":
            return ("head", self.trees(one, places(other)))
        number = way[1]
        place = places(one)[number]
        if way[0] == "part":
            return ("part", number, None if place == other else self.tree(place, other))
        return ("row", number, self.tree(place, places(other)[number]), self.trees(one, places(other)[number + 1:]))

    def trees(self, one, others):
        return [self.tree(one, other) for other in others]


def are_ranks(thing):
    if not isinstance(thing, list) or len(thing) > MOST_RANKED:
        return False
    return all([is_head(found) for found in thing]) and len(set(thing)) == len(thing)


def first_unlike(one, other):
    number = 0
    while places(one)[number] == places(other)[number]:
        number += 1
    return number


def ranks_of(rules):
    sought = rules.heads_of()
    if len(sought) > MOST_ORDERED:
        raise TooMany("the rules have more than six heads")
    for order in orders(sought):
        paper = Ranks(order)
        if paper.lets(rules):
            return paper
    return None


def orders(listed):
    # Of a sorted list they come from the least on.
    if listed == []:
        return [[]]
    found = []
    for number, first in enumerate(listed):
        rest = listed[:number] + listed[number + 1:]
        found.extend([[first] + order for order in orders(rest)])
    return found
