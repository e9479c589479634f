"""Papers: they say of terms which falls to which, and so of rules that they end."""

from endwise.errors import NoHead, TooMany

MOST_CHOICES = 3000


class Paper:
    def falls(self, one, other):
        return False

    def lets(self, rules):
        for left, right in rules.told():
            if not self.falls(left, right):
                return False
        return True


def look_for(met, known):
    for found in met:
        if found not in known:
            raise NoHead("the paper does not have a head")


def choices(rows):
    # One thing of each row; they come from the least on, where the rows rise.
    bound_choices(rows)
    found = [[]]
    for row in rows:
        longer = []
        for begun in found:
            longer.extend([begun + [chosen] for chosen in row])
        found = longer
    return found


def bound_choices(rows):
    count = 1
    for row in rows:
        count *= len(row)
        if count > MOST_CHOICES:
            raise TooMany("there are more than three thousand choices")
