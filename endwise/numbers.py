"""Papers of numbers: each head makes a value of its places' values, and terms fall where it grows less."""

from endwise.errors import NoPaper, TooGreat, TooMany
from endwise.papers import Paper, choices, look_for
from endwise.terms import all_heads, head, heads, is_head, is_whole, places

MOST_NUMBERED = 60
MOST_PRODUCTS = 40
MOST_POWER = 2
MOST_IN_FORM = 100
MOST_POWERS = 12


class Numbers(Paper):
    def __init__(self, products):
        if not are_numbers(products):
            raise NoPaper("numbers are a list of none to sixty tuples of unlike heads and their products")
        self.products = dict([(found, list(listed)) for found, listed in products])

    def told(self):
        return [(found, list(self.products[found])) for found in self.products]

    def value(self, term, worths=None):
        look_for(heads(term), self.products)
        found = self.worth(term, {} if worths is None else worths)
        if found >= first_too_great():
            raise TooGreat("the value has more than three hundred figures")
        return found

    def worth(self, term, worths):
        # What is too great stays the least that is: so nothing grows without measure.
        most = first_too_great()
        if not isinstance(term, tuple):
            return min(worths.get(term, 1), most)
        below = [self.worth(place, worths) for place in places(term)]
        return min(sum([multiplied(number, powers, below) for number, powers in self.products[head(term)]]), most)

    def form(self, term):
        # Asked for its refusals, which go ahead of those below.
        self.value(term)
        return sorted(self.form_of(term).items())

    def form_of(self, term):
        # A dict from powers to numbers.
        if not isinstance(term, tuple):
            return {((term, 1),): 1}
        below = [self.form_of(place) for place in places(term)]
        made = {}
        for number, powers in self.products[head(term)]:
            for found, times in product_of_forms(number, powers, below).items():
                add_product(made, found, times)
        return made

    def falls(self, one, other):
        upper = opened(self.form(one))
        lower = opened(self.form(other))
        for powers in lower:
            if upper.get(powers, 0) < lower[powers]:
                return False
        return upper[()] > lower[()]

    def count(self, term):
        return self.value(term) - 1


def are_numbers(thing):
    if not isinstance(thing, list) or len(thing) > MOST_NUMBERED:
        return False
    if not all([is_numbered(found) for found in thing]):
        return False
    return len(set([found[0] for found in thing])) == len(thing)


def is_numbered(thing):
    if not isinstance(thing, tuple) or len(thing) != 2 or not is_head(thing[0]):
        return False
    listed = thing[1]
    if not isinstance(listed, list) or not 1 <= len(listed) <= MOST_PRODUCTS:
        return False
    count = thing[0][1]
    if not all([is_product(found, count) for found in listed]):
        return False
    if len(set([powers for number, powers in listed])) != len(listed):
        return False
    return all([any([powers[place] > 0 for number, powers in listed]) for place in range(count)])


def is_product(thing, count):
    if not isinstance(thing, tuple) or len(thing) != 2:
        return False
    if not is_whole(thing[0]) or not 1 <= thing[0] <= 10 ** 30:
        return False
    if not isinstance(thing[1], tuple) or len(thing[1]) != count:
        return False
    return all([is_whole(power) and 0 <= power <= MOST_POWER for power in thing[1]])


def first_too_great():
    # The least number of three hundred and one figures.
    return (10 ** 60) ** 5


def multiplied(number, powers, below):
    made = number
    for power, place in zip(powers, below):
        for turn in range(power):
            made *= place
    return made


def product_of_forms(number, powers, below):
    made = {(): number}
    for power, place in zip(powers, below):
        for turn in range(power):
            made = multiplied_out(made, place)
    return made


def multiplied_out(one, other):
    made = {}
    for powers, number in one.items():
        for more, times in other.items():
            add_product(made, together(powers, more), number * times)
    return made


def together(powers, more):
    if powers == ():
        return more
    both = dict(powers)
    for blank, power in more:
        both[blank] = both.get(blank, 0) + power
    if sum(both.values()) > MOST_POWERS:
        raise TooMany("the powers of a product come to more than twelve")
    return tuple(sorted(both.items()))


def add_product(made, powers, number):
    # No number is ever less than 1, so what is added or multiplied later makes
    # neither products nor powers fewer: they may be refused as soon as they are met.
    made[powers] = made.get(powers, 0) + number
    if len(made) > MOST_IN_FORM:
        raise TooMany("the form has more than a hundred products")


def opened(form):
    # With 1 + z for each blank; a z is called like its blank.
    made = {}
    for powers, number in form:
        for found, times in opened_product(powers, number):
            made[found] = made.get(found, 0) + times
    return made


def opened_product(powers, number):
    found = [((), number)]
    for blank, power in powers:
        longer = list(found)
        for chosen in range(1, power + 1):
            often = ways_to_choose(chosen, power)
            longer.extend([(ahead + ((blank, chosen),), times * often) for ahead, times in found])
        found = longer
    return found


def ways_to_choose(count, among):
    made = 1
    for number in range(count):
        made = made * (among - number) // (number + 1)
    return made


def numbers_of(rules):
    sought = rules.heads_of()
    rows = []
    for found in sought:
        rows.extend(rows_of(found))
    seeking = Seeking(rules)
    # Rows of one head are of one length: so the numbers of all rows behind
    # one another are compared just as the lists of rows are.
    for chosen in choices(rows):
        paper = paper_chosen(sought, chosen)
        if seeking.lets_by(paper):
            return paper
    return None


class Seeking:
    # Asks as lets does, but keeps the answers: whether a rule's left side falls
    # hangs only on what is chosen for the rule's own heads.
    def __init__(self, rules):
        self.asked = [(left, right, all_heads([left, right])) for left, right in rules.told()]
        self.answered = {}

    def lets_by(self, paper):
        for number, rule in enumerate(self.asked):
            chosen = (number, tuple([tuple(paper.products[found]) for found in rule[2]]))
            if chosen not in self.answered:
                self.answered[chosen] = paper.falls(rule[0], rule[1])
            if not self.answered[chosen]:
                return False
        return True


def rows_of(found):
    if found[1] == 0:
        return [[1, 2, 3]]
    return [[0, 1, 2]] + [[1, 2]] * found[1]


def paper_chosen(sought, chosen):
    listed = []
    at = 0
    for found in sought:
        behind = at + 1 + found[1]
        listed.append((found, products_of(chosen[at:behind])))
        at = behind
    return Numbers(listed)


def products_of(row):
    count = len(row) - 1
    made = [(row[0], (0,) * count)] if row[0] > 0 else []
    for place, number in enumerate(row[1:]):
        made.append((number, (0,) * place + (1,) + (0,) * (count - place - 1)))
    return made
