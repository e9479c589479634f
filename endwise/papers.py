"""Papers: they say of terms which falls to which, and so of rules that they end."""


class Paper:
    def falls(self, one, other):
        return False

    def lets(self, rules):
        for left, right in rules.told():
            if not self.falls(left, right):
                return False
        return True
