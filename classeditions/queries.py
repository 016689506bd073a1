"""Queries, and of which papers they are so."""

from classeditions.query_text import BOTH, EITHER, NOT, SINCE, TOPICS, UNTIL, WORD


class Query:
    """A query in its place: the edition it was read by, its text, its pieces with bits, the papers told in news."""

    def __init__(self, read_by, text, pieces):
        self.read_by = read_by
        self.text = text
        self.pieces = pieces
        self.told = []


def with_bits(pieces, meant_sets):
    """The pieces with the bits of the meant sets that they meet in the place of topics."""
    return [(kind, meant_sets.meeting(value) if kind == TOPICS else value) for kind, value in pieces]


def so_among(query, day, words, every):
    """The bits of the meant sets of which the query is so, on this day and with these words."""
    waiting = []
    for kind, value in query.pieces:
        if kind == NOT:
            waiting.append(every - waiting.pop())
        elif kind == BOTH:
            second = waiting.pop()
            waiting.append(waiting.pop() & second)
        elif kind == EITHER:
            second = waiting.pop()
            waiting.append(waiting.pop() | second)
        elif kind == TOPICS:
            waiting.append(value)
        else:
            waiting.append(every if is_so(kind, value, day, words) else 0)
    return waiting[0]


def is_so(kind, value, day, words):
    """Is a piece so that asks for a word or a day?"""
    if kind == WORD:
        return value in words
    if kind == UNTIL:
        return day <= value
    return day >= value


def share_of(query, paper, meant_sets):
    """Of how many of the paper's meanings the query is so, and how many it has."""
    so = so_among(query, paper.day, paper.words, meant_sets.every)
    found = sum([count for meant, count in paper.meanings.items() if (so & meant_sets.bits[meant]) != 0])
    return (found, sum(paper.meanings.values()))


def first_difference(first, second, meant_sets):
    """The day, the words and the set of topics of the first paper on which the queries differ; None if there's none."""
    pieces = first.pieces + second.pieces
    lists = word_lists(pieces)
    every = meant_sets.every
    for day in days_to_try(pieces):
        for words in lists:
            apart = so_among(first, day, words, every) ^ so_among(second, day, words, every)
            if apart != 0:
                return (day, words, meant_sets.first_of(apart))
    return None


def days_to_try(pieces):
    """The days at which the answer of a piece can change, going up."""
    days = [0]
    for kind, day in pieces:
        if kind == UNTIL:
            days.extend([day, day + 1])
        elif kind == SINCE:
            days.extend([day - 1, day])
    return [day for day in sorted(set(days)) if 0 <= day <= 999]


def word_lists(pieces):
    """The lists of words that the pieces tell, the one with the least number first."""
    found = [[]]
    for word in sorted(set([value for kind, value in pieces if kind == WORD])):
        # A later word weighs more than all before it, so the lists with it come behind all without.
        found = found + [words + [word] for words in found]
    return found
