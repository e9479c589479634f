"""Terms: what they are, their parts and paths, and terms made of terms."""

from endwise.errors import NoPath, TooGreat

LETTERS = "abcdefghijklmnopqrstuvwxyz"
MOST_LETTERS = 8
MOST_PLACES = 9
MOST_BLANK = 999
MOST_LEVELS = 60
MOST_PARTS = 1000


def is_whole(thing):
    return isinstance(thing, int) and not isinstance(thing, bool)


def is_name(thing):
    if not isinstance(thing, str) or not 1 <= len(thing) <= MOST_LETTERS:
        return False
    return all([sign in LETTERS for sign in thing])


def is_blank(thing):
    return is_whole(thing) and 0 <= thing <= MOST_BLANK


def is_piece(thing):
    # Whether this could be a term, were its places terms: they are not looked at.
    if isinstance(thing, tuple):
        return 1 <= len(thing) <= MOST_PLACES + 1 and is_name(thing[0])
    return is_blank(thing)


def is_term(thing):
    # The size comes first: it bounds the walk through whatever was handed in.
    return not is_great(thing) and all([is_piece(found) for found in parts(thing)])


def is_head(thing):
    if not isinstance(thing, tuple) or len(thing) != 2:
        return False
    return is_name(thing[0]) and is_whole(thing[1]) and 0 <= thing[1] <= MOST_PLACES


def is_great(thing):
    # Level by level, so that it stops at the bounds even where things
    # that are shared stand in more places than could ever be counted.
    row = [thing]
    depth = 0
    counted = 0
    while row:
        depth += 1
        counted += len(row)
        if depth > MOST_LEVELS or counted > MOST_PARTS:
            return True
        row = level_below(row)
    return False


def level_below(row):
    below = []
    for thing in row:
        below.extend(places(thing))
    return below


def places(term):
    return term[1:] if isinstance(term, tuple) else ()


def head(term):
    return (term[0], len(term) - 1) if isinstance(term, tuple) else None


def levels(term):
    return 1 + max([levels(place) for place in places(term)], default=0)


def count_parts(term):
    return len(parts(term))


def parts(term):
    found = [term]
    for place in places(term):
        found.extend(parts(place))
    return found


def blanks(term):
    # A dict keeps the order in which they are met.
    met = {}
    for found in parts(term):
        if not isinstance(found, tuple):
            met[found] = True
    return list(met)


def heads(term):
    return all_heads([term])


def all_heads(terms):
    met = {}
    for term in terms:
        for found in parts(term):
            if isinstance(found, tuple):
                met[head(found)] = True
    return sorted(met)


def paths(term):
    found = [()]
    for number, place in enumerate(places(term)):
        found.extend([(number,) + rest for rest in paths(place)])
    return found


def part(term, path):
    return bounded(part_there(term, path))


def put(term, path, other):
    # Only the path is asked here: the part that goes may be of any size.
    part_there(term, path)
    return bounded(put_there(term, path, other))


def filled(term, filling):
    return bounded(exchanged(term, filling))


def anew(terms):
    numbers = {}
    for term in terms:
        for blank in blanks(term):
            numbers.setdefault(blank, len(numbers))
    return [filled(term, numbers) for term in terms]


def bounded(term):
    if is_great(term):
        raise TooGreat("the term would have too many levels or parts")
    return term


def part_there(term, path):
    if not isinstance(path, tuple):
        raise NoPath("a path is a tuple of whole numbers")
    found = term
    for number in path:
        found = place_there(found, number)
    return found


def place_there(term, number):
    below = places(term)
    if not is_whole(number) or not 0 <= number < len(below):
        raise NoPath("the path leads nowhere")
    return below[number]


def put_there(term, path, other):
    if path == ():
        return other
    at = path[0] + 1
    return term[:at] + (put_there(term[at], path[1:], other),) + term[at + 1:]


def exchanged(term, filling):
    if not isinstance(term, tuple):
        return filling.get(term, term)
    return term[:1] + tuple([exchanged(place, filling) for place in places(term)])
