"""The desk: it keeps rules by names, is told lines, and answers each."""

from endwise.calls import calls_of
from endwise.errors import NoLine, NoName, NoText
from endwise.loops import loop
from endwise.numbers import numbers_of
from endwise.overlaps import overlaps, unlike_ends
from endwise.ranks import ranks_of
from endwise.rules import Rules, is_rule
from endwise.terms import is_name
from endwise.texts import read, shown

MOST_RULES_IN_LINE = 20
# How many words stand behind the first one; behind "rules" there may be several numbers of them.
WORDS_BEHIND = {
    "drop": 1, "names": 0, "told": 1, "steps": 2, "end": 2, "same": 3, "ranks": 1, "count": 2, "calls": 1, "ends": 1,
    "overlaps": 1, "steady": 1,
}


class Desk:
    def __init__(self):
        self.kept = {}

    def say(self, line):
        words = words_of(line)
        if words[0] == "names":
            return " ".join(sorted(self.kept))
        if words[0] == "rules":
            return self.keep(words[1], words[2:])
        rules = self.rules_by(words[1])
        if words[0] == "drop":
            return self.drop(words[1])
        answer = DEEDS[words[0]]
        return answer(rules, [read(word) for word in words[2:]])

    def keep(self, name, words):
        if not is_name(name):
            raise NoName("a name has one to eight small letters")
        self.kept[name] = Rules([read_rule(word) for word in words])
        return str(len(words))

    def drop(self, name):
        self.kept.pop(name)
        return "ok"

    def rules_by(self, name):
        # What is no name never has rules.
        if name not in self.kept:
            raise NoName("no rules stand by this name")
        return self.kept[name]


def words_of(line):
    words = line.split(" ") if isinstance(line, str) else [""]
    behind = len(words) - 1
    if words[0] == "rules":
        known = 1 <= behind <= 1 + MOST_RULES_IN_LINE
    else:
        known = WORDS_BEHIND.get(words[0]) == behind
    if not known:
        raise NoLine("there is no such line")
    return words


def read_rule(word):
    sides = word.split(">")
    if len(sides) != 2:
        raise NoText("a rule has two sides and one sign between them")
    rule = (read(sides[0]), read(sides[1]))
    if not is_rule(rule):
        raise NoText("the two sides make no rule")
    return rule


def show_all(terms):
    return " ".join([shown(term) for term in terms])


def show_head(found):
    return found[0] + "/" + str(found[1])


def answer_told(rules, terms):
    return " ".join([shown(left) + ">" + shown(right) for left, right in rules.told()])


def answer_steps(rules, terms):
    return show_all([step[2] for step in rules.steps(terms[0])])


def answer_end(rules, terms):
    return shown(rules.end(terms[0])[1])


def answer_same(rules, terms):
    return "yes" if rules.end(terms[0])[1] == rules.end(terms[1])[1] else "no"


def answer_ranks(rules, terms):
    paper = ranks_of(rules)
    return "none" if paper is None else " ".join([show_head(found) for found in paper.told()])


def answer_count(rules, terms):
    paper = numbers_of(rules)
    return "none" if paper is None else str(paper.count(terms[0]))


def answer_calls(rules, terms):
    paper = calls_of(rules)
    if paper is None:
        return "none"
    return " ".join([show_head(found) + ":" + str(place) for found, place in paper.told()])


def answer_ends(rules, terms):
    if ranks_of(rules) is not None or numbers_of(rules) is not None or calls_of(rules) is not None:
        return "yes"
    found = loop(rules)
    return "open" if found is None else "loop " + shown(found[0])


def answer_overlaps(rules, terms):
    return str(len(overlaps(rules)))


def answer_steady(rules, terms):
    found = unlike_ends(rules)
    if found is None:
        return "yes"
    peak = found[0]
    return show_all([peak] + [rules.walked(peak, row)[-1] for row in found[1:]])


DEEDS = {
    "told": answer_told, "steps": answer_steps, "end": answer_end, "same": answer_same, "ranks": answer_ranks,
    "count": answer_count, "calls": answer_calls, "ends": answer_ends, "overlaps": answer_overlaps,
    "steady": answer_steady,
}
