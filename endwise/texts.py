"""How terms are written, and read again."""

from endwise.errors import NoText
from endwise.terms import LETTERS, MOST_LEVELS, is_great, is_piece, places

FIGURES = "0123456789"
MOST_FIGURES = 3


def shown(term):
    if not isinstance(term, tuple):
        return "?" + str(term)
    if len(term) == 1:
        return term[0]
    return term[0] + "(" + ",".join([shown(place) for place in places(term)]) + ")"


def read(text):
    if not isinstance(text, str):
        raise NoText("only a text is read")
    reader = Reader(text)
    term = reader.read_term(1)
    if reader.at < len(text):
        raise NoText("the text goes on behind the term")
    if is_great(term):
        raise NoText("the text tells too many parts")
    return term


class Reader:
    def __init__(self, text):
        self.text = text
        self.at = 0

    def read_term(self, level):
        # The levels are held here: a text may be deeper than calls may go.
        if level > MOST_LEVELS:
            raise NoText("the text tells too many levels")
        if self.takes("?"):
            return self.read_blank()
        term = (self.run_of(LETTERS),) + self.read_places(level)
        if not is_piece(term):
            raise NoText("no name stands here, or it has too many places")
        return term

    def read_blank(self):
        figures = self.run_of(FIGURES)
        # Three figures reach just to the last blank; int takes no row of figures without end.
        if not 1 <= len(figures) <= MOST_FIGURES:
            raise NoText("a blank has one to three figures")
        blank = int(figures)
        if str(blank) != figures:
            raise NoText("a blank has no nought ahead")
        return blank

    def read_places(self, level):
        if not self.takes("("):
            return ()
        found = [self.read_term(level + 1)]
        while self.takes(","):
            found.append(self.read_term(level + 1))
        if not self.takes(")"):
            raise NoText("the places are not closed")
        return tuple(found)

    def takes(self, sign):
        # A slice, for behind the last sign there is none to index.
        if self.text[self.at:self.at + 1] != sign:
            return False
        self.at += 1
        return True

    def run_of(self, signs):
        start = self.at
        while self.at < len(self.text) and self.text[self.at] in signs:
            self.at += 1
        return self.text[start:self.at]
