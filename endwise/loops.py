"""Loops of rules, and chains from one term to another."""

from endwise.fits import fitting
from endwise.terms import parts, paths


def loop(rules, most=50):
    for left, right in rules.told():
        found = loop_from(rules, left, most)
        if found is not None:
            return found
    return None


def loop_from(rules, left, most):
    # Of each term the row by which it was found first.
    rows = {left: []}
    found = [left]
    gone = 0
    while gone < len(found) and gone < most:
        start = found[gone]
        for path, number, term in rules.steps(start):
            row = rows[start] + [(path, number)]
            met = fitting_part(left, term)
            if met is not None:
                return (left, row) + met
            if term not in rows:
                rows[term] = row
                found.append(term)
        gone += 1
    return None


def fitting_part(left, term):
    for path, there in zip(paths(term), parts(term)):
        filling = fitting(left, there)
        if filling is not None:
            return (path, filling)
    return None


def chain(rules, one, other, most=200):
    end_of_one = rules.end(one, most)
    end_of_other = rules.end(other, most)
    if end_of_one[1] != end_of_other[1]:
        return None
    return chain_forth(rules, one, end_of_one[0]) + chain_back(rules, other, end_of_other[0])


def chain_forth(rules, one, row):
    # Step by step: the one itself is not told, and may lie beyond the bounds.
    made = []
    term = one
    for step in row:
        term = rules.walked_on(term, step)
        made.append((True,) + step + (term,))
    return made


def chain_back(rules, other, row):
    made = [(False,) + step + (term,) for step, term in zip(row, rules.walked(other, row))]
    return list(reversed(made))
