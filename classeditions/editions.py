"""Editions and their classes."""

from classeditions.topics import without

NO_CLASS = -1


class SchemeClass:
    """A class of an edition; over is the place of the class over it, or NO_CLASS."""

    def __init__(self, code, over, topics):
        self.code = code
        self.over = over
        self.topics = topics


class Edition:
    """A list of classes, and the text that it was read from."""

    def __init__(self, text, classes):
        self.text = text
        self.classes = classes

    def has_class(self, c):
        return c < len(self.classes)

    def own_topics(self, c):
        """The topics of class c that no class whose over it is has."""
        own = self.classes[c].topics
        for other in self.classes:
            if other.over == c:
                own = without(own, other.topics)
        return own
