"""What one object keeps from call to call."""

from classeditions.meanings import MeantSets, count_meanings


class Paper:
    """A paper: its day, its words, and its marks as sets of topics."""

    def __init__(self, day, words, marks):
        self.day = day
        self.words = words
        self.put_marks(marks)

    def put_marks(self, marks):
        """Gives the paper these marks; its meanings are counted just here, as queries ask for them often."""
        self.marks = marks
        self.meanings = count_meanings(marks)

    def has_mark(self, i):
        return i < len(self.marks)


class Records:
    """The editions and the papers, each counted from 0, and the queries in their places."""

    def __init__(self):
        self.editions = []
        self.papers = []
        self.queries = [None, None, None, None]
        self.meant_sets = MeantSets()

    def has_edition(self, e):
        return e < len(self.editions)

    def has_class(self, e, c):
        return self.has_edition(e) and self.editions[e].has_class(c)

    def class_topics(self, e, c):
        return self.editions[e].classes[c].topics

    def has_paper(self, p):
        return p < len(self.papers)

    def has_query(self, k):
        return self.queries[k] is not None
