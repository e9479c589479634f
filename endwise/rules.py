"""Rules over terms, the steps by them, rows of steps, and the end of a term."""

from endwise.errors import NoPath, NoRule, NoStep, TooLong
from endwise.fits import fitting
from endwise.terms import all_heads, blanks, bounded, exchanged, is_term, is_whole, part_there, parts, paths, put_there

MOST_RULES = 40


class Rules:
    def __init__(self, rules):
        if not are_rules(rules):
            raise NoRule("rules are a list of none to forty tuples of a left and a right side")
        self.listed = list(rules)
        self.named = all_heads([left for left, right in rules] + [right for left, right in rules])

    def told(self):
        return list(self.listed)

    def heads_of(self):
        return list(self.named)

    def steps(self, term):
        found = []
        for path, there in zip(paths(term), parts(term)):
            for number, rule in enumerate(self.listed):
                filling = fitting(rule[0], there)
                if filling is not None:
                    found.append((path, number, stepped(term, path, rule, filling)))
        return found

    def walked(self, term, row):
        reached = [term]
        for step in row:
            reached.append(self.walked_on(reached[-1], step))
        # All behind it are bounded; it was handed in, and may lie beyond the bounds.
        bounded(term)
        return reached

    def walked_on(self, term, step):
        if not self.is_step(step):
            raise NoStep("a step of a row is a tuple of a path and a rule's number")
        path = step[0]
        rule = self.listed[step[1]]
        filling = fitting(rule[0], part_stepped_on(term, path))
        if filling is None:
            raise NoStep("the rule does not fit there")
        return stepped(term, path, rule, filling)

    def is_step(self, thing):
        if not isinstance(thing, tuple) or len(thing) != 2:
            return False
        return is_whole(thing[1]) and 0 <= thing[1] < len(self.listed)

    def end(self, term, most=200):
        row = []
        last = term
        found = self.steps(last)
        while found:
            if len(row) >= most:
                raise TooLong("the end is not reached by so many steps")
            row.append(found[0][:2])
            last = found[0][2]
            found = self.steps(last)
        return (row, bounded(last))


def are_rules(thing):
    if not isinstance(thing, list) or len(thing) > MOST_RULES:
        return False
    return all([is_rule(rule) for rule in thing])


def is_rule(thing):
    if not isinstance(thing, tuple) or len(thing) != 2:
        return False
    if not is_term(thing[0]) or not is_term(thing[1]) or not isinstance(thing[0], tuple):
        return False
    return len(set(blanks(thing[1])) - set(blanks(thing[0]))) == 0


def stepped(term, path, rule, filling):
    return bounded(put_there(term, path, exchanged(rule[1], filling)))


def part_stepped_on(term, path):
    try:
        return part_there(term, path)
    except NoPath:
        raise NoStep("the step's path leads nowhere")
