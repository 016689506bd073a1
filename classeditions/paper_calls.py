"""The calls 6 paper to 9 unmark; their numbers and rows are in range already."""

from classeditions.records import Paper
from classeditions.refusals import FULL, NO_PAPER, NOT_RIGHT, NOT_THERE
from classeditions.topics import size_of

MOST_PAPERS = 12
MOST_MARKS = 3


def answer_paper_call(records, number, numbers, rows):
    if number == 6:
        return add_paper(records, numbers[0], rows[0], rows[1])
    if number == 7:
        return add_mark(records, numbers[0], numbers[1], numbers[2])
    if number == 8:
        return narrow_mark(records, numbers[0], numbers[1], numbers[2], numbers[3])
    return take_mark(records, numbers[0], numbers[1])


def add_paper(records, day, words, classes):
    if len(records.papers) == MOST_PAPERS:
        return [FULL]
    if len(records.editions) == 0:
        return [NOT_THERE]
    last = len(records.editions) - 1
    if not all([records.has_class(last, c) for c in classes]):
        return [NOT_THERE]
    marks = [records.class_topics(last, c) for c in classes]
    records.papers.append(Paper(day, words, marks))
    return [len(records.papers) - 1]


def add_mark(records, p, e, c):
    if not records.has_paper(p):
        return [NO_PAPER]
    if not records.has_class(e, c):
        return [NOT_THERE]
    marks = records.papers[p].marks
    if len(marks) == MOST_MARKS:
        return [FULL]
    marks.append(records.class_topics(e, c))
    return [len(marks) - 1]


def narrow_mark(records, p, i, e, c):
    if not records.has_paper(p):
        return [NO_PAPER]
    if not records.has_class(e, c):
        return [NOT_THERE]
    paper = records.papers[p]
    if not paper.has_mark(i):
        return [NO_PAPER]
    common = paper.marks[i] & records.class_topics(e, c)
    if common == 0:
        return [NOT_RIGHT]
    paper.marks[i] = common
    return [size_of(common)]


def take_mark(records, p, i):
    if not records.has_paper(p) or not records.papers[p].has_mark(i):
        return [NO_PAPER]
    marks = records.papers[p].marks
    marks.pop(i)
    return [len(marks)]
