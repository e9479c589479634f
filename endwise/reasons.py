"""Reasons why terms are alike, looked at line by line."""

from endwise.errors import NoReason
from endwise.terms import MOST_PLACES, is_great, is_name, is_term, is_whole


def borne(lines, pairs):
    if not isinstance(lines, list) or len(lines) == 0:
        raise NoReason("a reason is a list of one line or more")
    told = []
    for line in lines:
        pair = told_by(line, told, pairs)
        if pair is None or is_great(pair[0]) or is_great(pair[1]):
            raise NoReason("a line tells nothing")
        told.append(pair)
    return told


def told_by(line, told, pairs):
    # None where the line is none: only what stands ahead of it is told already.
    if not isinstance(line, tuple) or not 2 <= len(line) <= 3 or not isinstance(line[0], str):
        return None
    if len(line) == 3:
        return told_by_two(line, told)
    if line[0] == "told":
        return numbered(pairs, line[1])
    if line[0] == "self":
        return (line[1], line[1]) if is_term(line[1]) else None
    if line[0] == "back":
        pair = numbered(told, line[1])
        return None if pair is None else (pair[1], pair[0])
    return None


def told_by_two(line, told):
    if line[0] == "then":
        return told_one_behind_another(numbered(told, line[1]), numbered(told, line[2]))
    if line[0] == "in" and is_name(line[1]) and isinstance(line[2], list) and len(line[2]) <= MOST_PLACES:
        return told_in(line[1], [numbered(told, number) for number in line[2]])
    return None


def told_one_behind_another(first, second):
    if first is None or second is None or first[1] != second[0]:
        return None
    return (first[0], second[1])


def told_in(name, found):
    if None in found:
        return None
    return ((name,) + tuple([pair[0] for pair in found]), (name,) + tuple([pair[1] for pair in found]))


def numbered(listed, number):
    return listed[number] if is_whole(number) and 0 <= number < len(listed) else None
