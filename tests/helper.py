"""Builds lists of calls, and takes the answers apart again."""

from classeditions.desk import answers

LEAST = -9223372036854775808
GREATEST = 9223372036854775807

# Twelve classes of one topic each: what a mark has can be tried against them.
SINGLES = "A=0;B=1;C=2;D=3;E=4;F=5;G=6;H=7;I=8;J=9;K=10;L=11;"


def row(numbers):
    return [len(numbers)] + list(numbers)


def as_bytes(text):
    return list(text.encode("ascii")) if isinstance(text, str) else list(text)


def edition(text):
    return [0] + row(as_bytes(text))


def text(e):
    return [1, e]


def class_(e, c):
    return [2, e, c]


def concord(e, c, f):
    return [3, e, c, f]


def through(e, f, g, c):
    return [4, e, f, g, c]


def holder(e, c, f):
    return [5, e, c, f]


def paper(day, words, classes):
    return [6, day] + row(words) + row(classes)


def mark(p, e, c):
    return [7, p, e, c]


def remark(p, i, e, c):
    return [8, p, i, e, c]


def unmark(p, i):
    return [9, p, i]


def told(p):
    return [10, p]


def ask(k, e, text):
    return [11, k, e] + row(as_bytes(text))


def asks(k):
    return [12, k]


def find(k):
    return [13, k]


def likely(k, p):
    return [14, k, p]


def ranked(k):
    return [15, k]


def same(j, k):
    return [16, j, k]


def news(k):
    return [17, k]


def counts():
    return [18]


def flat(calls):
    return [number for call in calls for number in call]


def rows_of(answered):
    """The answers as a list of rows."""
    rows = []
    place = 0
    while place < len(answered):
        end = place + 1 + answered[place]
        rows.append(answered[place + 1:end])
        place = end
    assert place == len(answered)
    return rows


def run(*calls):
    """What each of the calls answers, on one new object."""
    rows = rows_of(answers(flat(calls)))
    assert len(rows) == len(calls)
    return rows


def last(*calls):
    """What the last of the calls answers."""
    return run(*calls)[-1]


def sum_of(topics):
    return sum(2 ** topic for topic in topics)


def marks_of(calls, p, singles):
    """The marks that paper p has after the calls, as numbers; singles: the edition with the text SINGLES."""
    found = []
    for i in range(3):
        if last(*calls, remark(p, i, singles, 0)) == [-5]:
            break
        found.append(sum_of(t for t in range(12) if last(*calls, remark(p, i, singles, t)) == [1]))
    return found
