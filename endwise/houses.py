"""Houses: what follows from told likenesses of terms without blanks."""

from endwise.errors import NoPair
from endwise.likeness import Likeness, Telling, weighed
from endwise.terms import blanks, bounded, count_parts, is_term, places

MOST_PAIRS = 40
MOST_PLAIN_PARTS = 60


class House:
    def __init__(self, pairs):
        if not are_pairs(pairs):
            raise NoPair("pairs are a list of none to forty tuples of two plain terms")
        self.pairs = list(pairs)
        self.lefts = Likeness(pairs).least_of_lefts()

    def told(self):
        return list(self.pairs)

    def rules_of(self):
        return sorted(self.lefts.items())

    def least(self, term):
        return bounded(self.least_with_places(term))

    def least_with_places(self, term):
        made = term[:1] + tuple([self.least_with_places(place) for place in places(term)])
        return self.lefts.get(made, made)

    def alike(self, one, other):
        return self.least_with_places(one) == self.least_with_places(other)

    def reason(self, one, other):
        likeness = Likeness(self.pairs)
        first = likeness.number_of(one)
        second = likeness.number_of(other)
        if likeness.leader(first) != likeness.leader(second):
            return None
        # The last line tells both; all others tell parts of them or of the pairs' terms.
        bounded(one)
        bounded(other)
        return Telling(likeness).lines_for(first, second)


def beyond(one, other):
    return weighed(one) > weighed(other)


def are_pairs(thing):
    if not isinstance(thing, list) or len(thing) > MOST_PAIRS:
        return False
    return all([is_pair(pair) for pair in thing])


def is_pair(thing):
    return isinstance(thing, tuple) and len(thing) == 2 and is_plain(thing[0]) and is_plain(thing[1])


def is_plain(thing):
    return is_term(thing) and blanks(thing) == [] and count_parts(thing) <= MOST_PLAIN_PARTS
