"""How a set of topics lies to the classes of an edition."""

from classeditions.editions import NO_CLASS
from classeditions.topics import size_of, without


def classes_meeting(edition, topics):
    """The classes that have one of the topics as their own, going up."""
    return [c for c in range(len(edition.classes)) if (edition.own_topics(c) & topics) != 0]


def own_together(edition, places):
    """All own topics of these classes."""
    together = 0
    for c in places:
        together = together | edition.own_topics(c)
    return together


def topics_of_no_class(edition, topics):
    """Those of the topics that no class of the edition has."""
    left = topics
    for each in edition.classes:
        left = without(left, each.topics)
    return left


def narrowest_holder(edition, topics):
    """Of the classes with all these topics the one with the fewest, of several the last; or NO_CLASS."""
    best = NO_CLASS
    fewest = 0
    for c, each in enumerate(edition.classes):
        if without(topics, each.topics) == 0:
            size = size_of(each.topics)
            if best == NO_CLASS or size <= fewest:
                best = c
                fewest = size
    return best
