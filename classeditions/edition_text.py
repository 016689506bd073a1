"""Reading an edition's text."""

from classeditions.editions import NO_CLASS, SchemeClass
from classeditions.rows import all_up_to, goes_up, split_at
from classeditions.spelling import is_code, read_decimal
from classeditions.topics import LAST_TOPIC, set_of

MOST_CLASSES = 16
COMMA = 44
SEMICOLON = 59
LESS = 60
EQUALS = 61


def read_classes(text):
    """The classes that a text tells, in order; None if it isn't right."""
    parts = split_at(text, SEMICOLON)
    # What stands behind the last semicolon is a part too, and must be empty.
    if len(parts[-1]) > 0:
        return None
    sentences = parts[:-1]
    if len(sentences) == 0 or len(sentences) > MOST_CLASSES:
        return None
    classes = []
    for sentence in sentences:
        found = read_sentence(sentence, classes)
        if found is None or not fits(found, classes):
            return None
        classes.append(found)
    return classes


def read_sentence(sentence, before):
    """The class of a sentence, given the classes before it; None if it isn't right."""
    halves = split_at(sentence, EQUALS)
    if len(halves) != 2:
        return None
    codes = split_at(halves[0], LESS)
    if len(codes) > 2 or not all([is_code(code) for code in codes]):
        return None
    topics = [read_decimal(part) for part in split_at(halves[1], COMMA)]
    if not all_up_to(topics, LAST_TOPIC) or not goes_up(topics):
        return None
    over = NO_CLASS
    if len(codes) == 2:
        over = place_of_code(codes[1], before)
        if over == NO_CLASS:
            return None
    return SchemeClass(codes[0], over, set_of(topics))


def place_of_code(code, classes):
    """The place of the class with this code; NO_CLASS if there's none."""
    for place, other in enumerate(classes):
        if other.code == code:
            return place
    return NO_CLASS


def fits(found, before):
    """Is its code new, and are its topics its over's and none of the classes' beside it?"""
    if place_of_code(found.code, before) != NO_CLASS:
        return False
    if found.over != NO_CLASS and (found.topics & before[found.over].topics) != found.topics:
        return False
    for other in before:
        if other.over == found.over and (other.topics & found.topics) != 0:
            return False
    return True
