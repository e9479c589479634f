"""Papers of calls: where rules call their own heads again, what stands in a chosen place grows less."""

from endwise.errors import NoPaper
from endwise.papers import Paper, choices
from endwise.terms import head, is_head, is_whole, part_there, parts, paths, places

MOST_CHOSEN = 60


class Calls(Paper):
    def __init__(self, chosen):
        if not are_chosen(chosen):
            raise NoPaper("chosen are a list of none to sixty tuples of unlike heads and a place of each")
        self.chosen = dict(chosen)

    def told(self):
        return list(self.chosen.items())

    def falls(self, one, other):
        upper = self.chosen_part(one)
        lower = self.chosen_part(other)
        return upper is not None and lower is not None and upper != lower and lower in parts(upper)

    def lets(self, rules):
        return self.lets_calls(ring_calls(rules))

    def lets_calls(self, found):
        same = []
        for left, there in found:
            upper = self.chosen_part(left)
            lower = self.chosen_part(there)
            if upper is None or lower is None or lower not in parts(upper):
                return False
            if upper == lower:
                same.append((head(left), head(there)))
        onward = reached(same)
        return not any([start in onward[start] for start in onward])

    def chosen_part(self, term):
        # None where no place is chosen for the term's head.
        place = self.chosen.get(head(term))
        return None if place is None else places(term)[place]


def are_chosen(thing):
    if not isinstance(thing, list) or len(thing) > MOST_CHOSEN:
        return False
    if not all([is_choice(found) for found in thing]):
        return False
    return len(set([found[0] for found in thing])) == len(thing)


def is_choice(thing):
    if not isinstance(thing, tuple) or len(thing) != 2 or not is_head(thing[0]):
        return False
    return is_whole(thing[1]) and 0 <= thing[1] < thing[0][1]


def calls(rules):
    listed = rules.told()
    made = dict([(head(left), True) for left, right in listed])
    found = []
    for number, rule in enumerate(listed):
        for path, there in zip(paths(rule[1]), parts(rule[1])):
            if head(there) in made:
                found.append((number, path))
    return found


def ring_calls(rules):
    # Those between two heads of one ring, as tuples of the left side and the call's own part.
    listed = rules.told()
    found = [(listed[number][0], part_there(listed[number][1], path)) for number, path in calls(rules)]
    onward = reached([(head(left), head(there)) for left, there in found])
    return [(left, there) for left, there in found if head(left) in onward.get(head(there), {})]


def reached(leads):
    # For each head that leads anywhere all heads to which it does, one behind another.
    straight = {}
    for start, target in leads:
        straight.setdefault(start, {})
        straight[start][target] = True
    return dict([(start, reached_from(start, straight)) for start in straight])


def reached_from(start, straight):
    met = {}
    waiting = [start]
    while waiting:
        for found in straight.get(waiting.pop(), {}):
            if found not in met:
                met[found] = True
                waiting.append(found)
    return met


def calls_of(rules):
    found = ring_calls(rules)
    # Each head of a ring has a call within it.
    sought = [ringed for ringed in sorted(set([head(left) for left, there in found])) if ringed[1] > 0]
    for row in choices([list(range(ringed[1])) for ringed in sought]):
        paper = Calls(list(zip(sought, row)))
        if paper.lets_calls(found):
            return paper
    return None
