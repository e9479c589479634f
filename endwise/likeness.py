"""Which of the parts of told pairs are alike, their least terms, and the reasons."""

from endwise.terms import head, places


def weighed(term):
    # Weights are compared as tuples just as their terms by which is beyond:
    # how many parts, then the head, then the weights of the places.
    return weight_above(head(term), [weighed(place) for place in places(term)])


def weight_above(found, below):
    return (1 + sum([weight[0] for weight in below]), found) + tuple(below)


def unweighed(weight):
    return weight[1][:1] + tuple([unweighed(below) for below in weight[2:]])


class Likeness:
    # Each part is numbered once, those of its places ahead of it. Parts that are alike
    # have one leader. Links bring together parts of which it was not known before: so
    # there is but one way of links from one part to another, and the links of which a
    # link without a pair's number is made are all older.
    def __init__(self, pairs):
        self.numbers = {}
        self.shapes = []
        self.nearer = []
        self.above = []
        self.signed = {}
        self.links = []
        for number, pair in enumerate(pairs):
            self.bring_together((self.number_of(pair[0]), self.number_of(pair[1]), number))

    def number_of(self, term):
        shape = (term[0], tuple([self.number_of(place) for place in places(term)]))
        if shape not in self.numbers:
            self.numbers[shape] = len(self.shapes)
            self.add(shape, len(self.shapes))
        return self.numbers[shape]

    def add(self, shape, number):
        self.shapes.append(shape)
        self.nearer.append(number)
        self.above.append([])
        for below in shape[1]:
            self.above[self.leader(below)].append(number)
        self.bring_together((number, self.twin(number), None))

    def leader(self, number):
        while self.nearer[number] != number:
            number = self.nearer[number]
        return number

    def twin(self, number):
        # The first part met with this name and the same leaders in its places.
        shape = self.shapes[number]
        return self.signed.setdefault((shape[0], tuple([self.leader(below) for below in shape[1]])), number)

    def bring_together(self, link):
        waiting = [link]
        while waiting:
            first = waiting.pop()
            upper = self.leader(first[0])
            lower = self.leader(first[1])
            if upper != lower:
                self.links.append(first)
                waiting.extend(self.led_by_one(upper, lower))

    def led_by_one(self, upper, lower):
        # Told are the links that follow: fewer parts are looked at where the smaller one is led.
        stays = upper if len(self.above[upper]) >= len(self.above[lower]) else lower
        goes = lower if stays == upper else upper
        self.nearer[goes] = stays
        self.above[stays].extend(self.above[goes])
        return [(number, self.twin(number), None) for number in self.above[goes]]

    def term_of(self, number):
        shape = self.shapes[number]
        return (shape[0],) + tuple([self.term_of(below) for below in shape[1]])

    def leasts(self):
        # For each leader the weight of its least term: from the parts' own terms
        # down, until none grows less.
        found = {}
        grown_less = True
        while grown_less:
            grown_less = False
            for number in range(len(self.shapes)):
                weight = self.weight_with(number, found)
                leads = self.leader(number)
                if leads not in found or weight < found[leads]:
                    found[leads] = weight
                    grown_less = True
        return found

    def weight_with(self, number, found):
        shape = self.shapes[number]
        return weight_above((shape[0], len(shape[1])), [found[self.leader(below)] for below in shape[1]])

    def least_of_lefts(self):
        # From terms whose places are least ones to their own least, where this is another.
        found = self.leasts()
        made = {}
        for number in range(len(self.shapes)):
            left = self.weight_with(number, found)
            least = found[self.leader(number)]
            if left != least:
                made[unweighed(left)] = unweighed(least)
        return made


class Telling:
    # Writes the lines of a reason. The links hang as trees, so that the way
    # between two parts is found by going up from both.
    def __init__(self, likeness):
        self.likeness = likeness
        self.over = {}
        self.deep = {}
        self.linked = {}
        self.lines = []
        self.written = {}
        beside = {}
        for number, link in enumerate(likeness.links):
            for pair in ((link[0], link[1]), (link[1], link[0])):
                self.linked[pair] = number
                beside.setdefault(pair[0], [])
                beside[pair[0]].append(pair[1])
        for start in beside:
            if start not in self.deep:
                self.hang(start, beside)

    def hang(self, start, beside):
        self.deep[start] = 0
        waiting = [start]
        while waiting:
            above = waiting.pop()
            for number in beside[above]:
                if number not in self.deep:
                    self.deep[number] = self.deep[above] + 1
                    self.over[number] = above
                    waiting.append(number)

    def way(self, one, other):
        # All parts from the one to the other, each linked with the next.
        forth = [one]
        back = [other]
        while forth[-1] != back[-1]:
            if self.deep[forth[-1]] >= self.deep[back[-1]]:
                forth.append(self.over[forth[-1]])
            else:
                back.append(self.over[back[-1]])
        return forth + list(reversed(back[:-1]))

    def lines_for(self, one, other):
        # The older links first: the lines of a link need only those of older ones.
        for number in self.needed(one, other):
            self.write_link(self.likeness.links[number])
        last = self.write_way(one, other)
        return self.lines[:last + 1]

    def needed(self, one, other):
        met = {}
        waiting = [(one, other)]
        while waiting:
            pair = waiting.pop()
            way = self.way(pair[0], pair[1])
            for step in zip(way, way[1:]):
                number = self.linked[step]
                if number not in met:
                    met[number] = True
                    waiting.extend(self.linked_places(self.likeness.links[number]))
        return sorted(met)

    def linked_places(self, link):
        if link[2] is not None:
            return []
        shapes = self.likeness.shapes
        return list(zip(shapes[link[0]][1], shapes[link[1]][1]))

    def write_link(self, link):
        if link[2] is not None:
            return self.write(link[:2], ("told", link[2]))
        below = [self.write_way(one, other) for one, other in self.linked_places(link)]
        return self.write(link[:2], ("in", self.likeness.shapes[link[0]][0], below))

    def write_way(self, one, other):
        if one == other:
            return self.write((one, one), ("self", self.likeness.term_of(one)))
        way = self.way(one, other)
        last = self.write_turned(one, way[1])
        for before, behind in zip(way[1:], way[2:]):
            last = self.write((one, behind), ("then", last, self.write_turned(before, behind)))
        return last

    def write_turned(self, one, other):
        # Of two that are linked one line is written already.
        if (one, other) in self.written:
            return self.written[(one, other)]
        return self.write((one, other), ("back", self.written[(other, one)]))

    def write(self, pair, line):
        if pair not in self.written:
            self.written[pair] = len(self.lines)
            self.lines.append(line)
        return self.written[pair]
