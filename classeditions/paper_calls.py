"""The calls 6 paper to 10 told; their numbers and rows are in range already."""

from classeditions.meanings import MOST_MARKS
from classeditions.records import Paper
from classeditions.refusals import FULL, NO_PAPER, NOT_RIGHT, NOT_THERE
from classeditions.rows import counted
from classeditions.topics import size_of

MOST_PAPERS = 12


def answer_paper_call(records, number, numbers, rows):
    if number == 6:
        return add_paper(records, numbers[0], rows[0], rows[1])
    if number == 7:
        return add_mark(records, numbers[0], numbers[1], numbers[2])
    if number == 8:
        return narrow_mark(records, numbers[0], numbers[1], numbers[2], numbers[3])
    if number == 9:
        return take_mark(records, numbers[0], numbers[1])
    return tell_paper(records, numbers[0])


def add_paper(records, day, words, classes):
    if len(records.papers) == MOST_PAPERS:
        return [FULL]
    if len(records.editions) == 0:
        return [NOT_THERE]
    last = len(records.editions) - 1
    if not all([records.has_class(last, c) for c in classes]):
        return [NOT_THERE]
    marks = [records.class_topics(last, c) for c in classes]
    records.papers.append(Paper(day, words, marks))
    return [len(records.papers) - 1]


def add_mark(records, p, e, c):
    if not records.has_paper(p):
        return [NO_PAPER]
    if not records.has_class(e, c):
        return [NOT_THERE]
    paper = records.papers[p]
    if len(paper.marks) == MOST_MARKS:
        return [FULL]
    paper.put_marks(paper.marks + [records.class_topics(e, c)])
    return [len(paper.marks) - 1]


def narrow_mark(records, p, i, e, c):
    if not records.has_paper(p):
        return [NO_PAPER]
    if not records.has_class(e, c):
        return [NOT_THERE]
    paper = records.papers[p]
    if not paper.has_mark(i):
        return [NO_PAPER]
    common = paper.marks[i] & records.class_topics(e, c)
    if common == 0:
        return [NOT_RIGHT]
    paper.put_marks(paper.marks[:i] + [common] + paper.marks[i + 1:])
    return [size_of(common)]


def take_mark(records, p, i):
    if not records.has_paper(p) or not records.papers[p].has_mark(i):
        return [NO_PAPER]
    paper = records.papers[p]
    paper.put_marks(paper.marks[:i] + paper.marks[i + 1:])
    return [len(paper.marks)]


def tell_paper(records, p):
    if not records.has_paper(p):
        return [NO_PAPER]
    paper = records.papers[p]
    return [paper.day] + counted(paper.words) + counted(paper.marks)
