"""Fitting a pattern to a term, and joining two terms."""

from endwise.errors import TooGreat
from endwise.terms import blanks, bounded, head, is_great, parts, places


def fit(pattern, term):
    filling = fitting(pattern, term)
    if filling is not None:
        for blank in filling:
            bounded(filling[blank])
    return filling


def fitting(pattern, term):
    # Terms of any size are taken here: what is made by the filling may be small again.
    filling = {}
    return filling if fits_on(pattern, term, filling) else None


def fits_on(pattern, term, filling):
    # The filling holds what the blanks further to the left ask for, and is added to.
    if not isinstance(pattern, tuple):
        return filling.setdefault(pattern, term) == term
    if head(pattern) != head(term):
        return False
    for place, there in zip(places(pattern), places(term)):
        if not fits_on(place, there, filling):
            return False
    return True


def joint(one, other):
    joining = Joining()
    if not joining.brings_together(one, other):
        return None
    made = joining.made_terms(parts(one) + parts(other))
    if made is None:
        return None
    filling = {}
    for blank in blanks(one) + blanks(other):
        filling[blank] = made[joining.foremost(blank)]
        if filling[blank] is None:
            raise TooGreat("a blank's term would have too many levels or parts")
    return filling


class Joining:
    # Parts that must become the same stand together, and each leads to one that
    # stands for them all. No term is copied meanwhile: so it stays small even
    # where the terms of the filling would grow without measure.
    def __init__(self):
        self.leads = {}

    def foremost(self, found):
        while found in self.leads:
            found = self.leads[found]
        return found

    def brings_together(self, one, other):
        # False where unlike heads meet.
        waiting = [(one, other)]
        while waiting:
            pair = waiting.pop()
            upper = self.foremost(pair[0])
            lower = self.foremost(pair[1])
            if upper == lower:
                continue
            if isinstance(upper, tuple) and isinstance(lower, tuple):
                if head(upper) != head(lower):
                    return False
                waiting.extend(list(zip(places(upper), places(lower))))
            self.put_together(upper, lower)
        return True

    def put_together(self, one, other):
        # A blank stands only for blanks, and then the least one does.
        if isinstance(one, tuple):
            self.leads[other] = one
        elif isinstance(other, tuple):
            self.leads[one] = other
        else:
            self.leads[max(one, other)] = min(one, other)

    def made_terms(self, found):
        # Of each that stands for others its term, None where this is too great;
        # None for all where one would lie within its own term.
        made = {}
        waiting = list(dict([(self.foremost(thing), True) for thing in reversed(found)]))
        while waiting:
            later = []
            for thing in waiting:
                if not self.makes(thing, made):
                    later.append(thing)
            if len(later) == len(waiting):
                return None
            waiting = later
        return made

    def makes(self, thing, made):
        # False where the term of a place is not made yet.
        below = [self.foremost(place) for place in places(thing)]
        if not all([place in made for place in below]):
            return False
        made[thing] = whole(thing, [made[place] for place in below])
        return True


def whole(thing, below):
    if not isinstance(thing, tuple):
        return thing
    if None in below:
        return None
    term = thing[:1] + tuple(below)
    return None if is_great(term) else term
