"""Reading a query's text into its pieces.

A piece is a kind and a value; pieces stand one behind another, what is held ahead of what holds it.
"""

from classeditions.edition_text import place_of_code
from classeditions.editions import NO_CLASS
from classeditions.spelling import is_capital, is_digit, read_decimal

DEEPEST = 10
OWN_ALONE = 33

# The value of a piece of topics is a set, of a word or a day its number, of the others nothing (0).
TOPICS = "topics"
WORD = "#"
UNTIL = "<"
SINCE = ">"
NOT = "-"
BOTH = "&"
EITHER = "|"
# Brackets are signs of the text alone: as a piece they're told by what stands between their queries.
BRACKET = "("
BRACKET_END = ")"

KINDS_BY_THEMSELVES = {38: "&", 40: "(", 41: ")", 45: "-", 124: "|"}
KINDS_WITH_NUMBER = {35: "#", 60: "<", 62: ">"}
GREATEST_NUMBER = {"#": 5, "<": 999, ">": 999}


class PieceMaker:
    """Makes pieces of signs; waiting are the nots and brackets whose queries haven't all come."""

    def __init__(self):
        self.pieces = []
        self.waiting = []
        self.ended = False

    def takes(self, kind, value):
        """Takes the next sign; False if it can't stand there."""
        if self.ended:
            return self.takes_behind(kind)
        if kind == NOT or kind == BRACKET:
            self.waiting.append(kind)
            return True
        if kind not in (TOPICS, WORD, UNTIL, SINCE) or len(self.waiting) >= DEEPEST:
            return False
        self.end_query(kind, value)
        return True

    def takes_behind(self, kind):
        """Takes a sign that stands behind a query; False if it can't."""
        if len(self.waiting) == 0:
            return False
        around = self.waiting[-1]
        if around == BRACKET and (kind == BOTH or kind == EITHER):
            self.waiting[-1] = kind
            self.ended = False
            return True
        if around != BRACKET and kind == BRACKET_END:
            self.end_query(self.waiting.pop(), 0)
            return True
        return False

    def end_query(self, kind, value):
        """Adds the piece with which a query ends, and with it each not that stands before the query."""
        self.pieces.append((kind, value))
        while len(self.waiting) > 0 and self.waiting[-1] == NOT:
            self.pieces.append((self.waiting.pop(), 0))
        self.ended = True

    def is_whole(self):
        return self.ended and len(self.waiting) == 0


def read_pieces(text, edition):
    """The pieces of a query's text, read by an edition; None if it isn't right."""
    signs = read_signs(text, edition)
    if signs is None:
        return None
    maker = PieceMaker()
    for kind, value in signs:
        if not maker.takes(kind, value):
            return None
    return maker.pieces if maker.is_whole() else None


def read_signs(text, edition):
    """The kinds and values that the text is made of, in its order; None if one isn't right."""
    signs = []
    place = 0
    while place < len(text):
        end = end_of_sign(text, place)
        sign = read_sign(text[place:end], edition)
        if sign is None:
            return None
        signs.append(sign)
        place = end
    return signs


def end_of_sign(text, place):
    end = place + 1
    if text[place] in KINDS_BY_THEMSELVES:
        return end
    # No two codes or numbers may touch, so all that could belong to one is taken for it.
    while end < len(text) and (is_capital(text[end]) or is_digit(text[end]) or text[end] == OWN_ALONE):
        end = end + 1
    return end


def read_sign(row, edition):
    first = row[0]
    if first in KINDS_BY_THEMSELVES:
        return (KINDS_BY_THEMSELVES[first], 0)
    if first in KINDS_WITH_NUMBER:
        return read_numbered(KINDS_WITH_NUMBER[first], row[1:])
    return read_class(row, edition)


def read_numbered(kind, row):
    value = read_decimal(row)
    if value < 0 or value > GREATEST_NUMBER[kind]:
        return None
    return (kind, value)


def read_class(row, edition):
    alone = row[-1] == OWN_ALONE
    c = place_of_code(row[:-1] if alone else row, edition.classes)
    if c == NO_CLASS:
        return None
    return (TOPICS, edition.own_topics(c) if alone else edition.classes[c].topics)
