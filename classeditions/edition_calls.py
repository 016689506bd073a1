"""The calls 0 edition to 5 holder; their numbers and rows are in range already."""

from classeditions.concords import classes_meeting, narrowest_holder, own_together, topics_of_no_class
from classeditions.edition_text import read_classes
from classeditions.editions import NO_CLASS, Edition
from classeditions.refusals import FULL, NOT_RIGHT, NOT_THERE
from classeditions.rows import counted

MOST_EDITIONS = 4


def answer_edition_call(records, number, numbers, rows):
    if number == 0:
        return add_edition(records, rows[0])
    if number == 1:
        return tell_text(records, numbers[0])
    if number == 2:
        return tell_class(records, numbers[0], numbers[1])
    if number == 3:
        return tell_concord(records, numbers[0], numbers[1], numbers[2])
    if number == 4:
        return tell_through(records, numbers[0], numbers[1], numbers[2], numbers[3])
    return tell_holder(records, numbers[0], numbers[1], numbers[2])


def add_edition(records, text):
    if len(records.editions) == MOST_EDITIONS:
        return [FULL]
    classes = read_classes(text)
    if classes is None:
        return [NOT_RIGHT]
    records.editions.append(Edition(text, classes))
    return [len(records.editions) - 1, len(classes)]


def tell_text(records, e):
    if not records.has_edition(e):
        return [NOT_THERE]
    return list(records.editions[e].text)


def tell_class(records, e, c):
    if not records.has_class(e, c):
        return [NOT_THERE]
    edition = records.editions[e]
    told = edition.classes[c]
    # NO_CLASS is -1, so that one more than the over is 0 where there's none.
    return [told.over + 1, told.topics, edition.own_topics(c)] + told.code


def tell_concord(records, e, c, f):
    if not records.has_class(e, c) or not records.has_edition(f):
        return [NOT_THERE]
    topics = records.class_topics(e, c)
    edition = records.editions[f]
    return counted(classes_meeting(edition, topics)) + [topics_of_no_class(edition, topics)]


def tell_through(records, e, f, g, c):
    if not records.has_class(e, c) or not records.has_edition(f) or not records.has_edition(g):
        return [NOT_THERE]
    topics = records.class_topics(e, c)
    between = records.editions[f]
    carried = own_together(between, classes_meeting(between, topics))
    reached = classes_meeting(records.editions[g], carried)
    straight = classes_meeting(records.editions[g], topics)
    return counted(reached) + counted([place for place in reached if place not in straight])


def tell_holder(records, e, c, f):
    if not records.has_class(e, c) or not records.has_edition(f):
        return [NOT_THERE]
    topics = records.class_topics(e, c)
    holder = narrowest_holder(records.editions[f], topics)
    if holder == NO_CLASS:
        return [0]
    if records.class_topics(f, holder) == topics:
        return [1, holder, 1]
    return [1, holder, 0]
