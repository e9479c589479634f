"""Overlaps of rules, and the unlike ends to which they lead."""

from endwise.fits import joint
from endwise.terms import anew, blanks, bounded, exchanged, parts, paths, put_there


def overlaps(rules):
    listed = rules.told()
    others = apart(listed)
    found = []
    for number, rule in enumerate(listed):
        for path, there in zip(paths(rule[0]), parts(rule[0])):
            if isinstance(there, tuple):
                found.extend(overlaps_at(number, rule, path, there, others))
    return found


def apart(listed):
    # The same rules, with blanks that none of them has, perhaps beyond those of terms:
    # they stand only until the terms of an overlap are numbered anew.
    numbers = {}
    for left, right in listed:
        for blank in blanks(left):
            numbers[blank] = True
    beyond = 1 + max(numbers, default=0)
    numbers = dict([(blank, beyond + blank) for blank in numbers])
    return [(exchanged(left, numbers), exchanged(right, numbers)) for left, right in listed]


def overlaps_at(number, rule, path, there, others):
    found = []
    for other_number, other_rule in enumerate(others):
        if number == other_number and path == ():
            continue
        filling = joint(there, other_rule[0])
        if filling is not None:
            found.append((number, path, other_number) + overlapped(rule, path, other_rule, filling))
    return found


def overlapped(rule, path, other_rule, filling):
    # Bounded at once: else all their parts, perhaps many, would be gone through to number them anew.
    peak = bounded(exchanged(rule[0], filling))
    one = bounded(exchanged(rule[1], filling))
    other = bounded(put_there(peak, path, exchanged(other_rule[1], filling)))
    return tuple(anew([peak, one, other]))


def unlike_ends(rules, most=200):
    for number, path, other_number, peak, one, other in overlaps(rules):
        end_of_one = rules.end(one, most)
        end_of_other = rules.end(other, most)
        if end_of_one[1] != end_of_other[1]:
            return (peak, [((), number)] + end_of_one[0], [(path, other_number)] + end_of_other[0])
    return None
