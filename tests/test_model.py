"""Many made-up lines against a second writing of the words, by Python's own sets and patterns."""

import fractions
import itertools
import random
import re
import unittest

from classeditions.desk import answers
from tests.helper import flat, GREATEST, LEAST, row, rows_of, sum_of

SENTENCE = re.compile(r"([A-Z][A-Z0-9]{0,5})(?:<([A-Z][A-Z0-9]{0,5}))?=((?:[0-9]|1[01])(?:,(?:[0-9]|1[01]))*)")
LEAF = re.compile(r"([A-Z][A-Z0-9]*)(!?)|#([0-9]+)|([<>])([0-9]+)")
BRACKETS = re.compile(r"\(\{(\d+)\}([&|])\{(\d+)\}\)")
MEANT = [set(each) for size in range(4) for each in itertools.combinations(range(12), size)]
WORDS = [{w for w in range(6) if number >> w & 1} for number in range(64)]


class Reader:
    """Reads a query by putting {n} in the place of what has been read: n is the place in parts.

    A part is (an expression of Python over day, words and meant; how deep; its weight).
    """

    def __init__(self, topics, own):
        self.topics = topics
        self.own = own
        self.parts = []

    def keep(self, expression, deep, weight):
        self.parts.append((expression, deep, weight))
        return "{%d}" % (len(self.parts) - 1)

    def leaf(self, match):
        code, alone, word, sign, day = match.groups()
        if code:
            found = (self.own if alone else self.topics).get(code)
            return "?" if found is None else self.keep("bool(%s & meant)" % (found or "set()"), 1, 1)
        number = word or day
        if str(int(number)) != number or int(number) > (5 if word else 999):
            return "?"
        return self.keep("(%s in words)" % word if word else "(day %s= %s)" % (sign, day), 1, 1)

    def negation(self, match):
        expression, deep, weight = self.parts[int(match[1])]
        return self.keep("(not %s)" % expression, deep + 1, weight + 1)

    def pair(self, match):
        one, two = self.parts[int(match[1])], self.parts[int(match[3])]
        sign = "and" if match[2] == "&" else "or"
        return self.keep("(%s %s %s)" % (one[0], sign, two[0]), max(one[1], two[1]) + 1, one[2] + two[2] + 1)

    def read(self, told):
        if "{" in told or "?" in told:
            return None
        told = LEAF.sub(self.leaf, told)
        before = None
        while before != told:
            before = told
            told = BRACKETS.sub(self.pair, re.sub(r"-\{(\d+)\}", self.negation, told))
        match = re.fullmatch(r"\{(\d+)\}", told)
        part = self.parts[int(match[1])] if match else None
        return part if part and part[1] <= 10 else None


class Model:
    """Each call as a method; editions are lists of (code, over or None, set of topics).

    A paper is its list of marks; days and words stand beside. A query is (edition, text, function, papers told).
    """

    def __init__(self):
        self.editions = []
        self.texts = []
        self.papers = []
        self.beside = []
        self.queries = {}

    def read(self, text):
        told = bytes(text).decode("latin-1")
        if not told.endswith(";"):
            return None
        classes = []
        for sentence in told[:-1].split(";"):
            match = SENTENCE.fullmatch(sentence)
            if not match:
                return None
            topics = [int(part) for part in match[3].split(",")]
            codes = [code for code, over, own in classes]
            if topics != sorted(set(topics)) or match[1] in codes or (match[2] and match[2] not in codes):
                return None
            over = codes.index(match[2]) if match[2] else None
            if over is not None and not set(topics) <= classes[over][2]:
                return None
            if any(other[1] == over and other[2] & set(topics) for other in classes):
                return None
            classes.append((match[1], over, set(topics)))
        return classes if len(classes) <= 16 else None

    def own(self, e, c):
        under = [topics for code, over, topics in self.editions[e] if over == c]
        return self.editions[e][c][2].difference(*under)

    def there(self, *pairs):
        return all(e < len(self.editions) and c < len(self.editions[e]) for e, c in pairs)

    def meeting(self, topics, f):
        return [k for k in range(len(self.editions[f])) if self.own(f, k) & topics]

    def edition(self, text):
        if len(text) > 400 or any(byte not in range(256) for byte in text):
            return [-1]
        if len(self.editions) == 4:
            return [-3]
        classes = self.read(text)
        if classes is None:
            return [-6]
        self.editions.append(classes)
        self.texts.append(text)
        return [len(self.editions) - 1, len(classes)]

    def text(self, e):
        return self.texts[e] if self.there((e, 0)) else [-7]

    def class_(self, e, c):
        if not self.there((e, c)):
            return [-7]
        code, over, topics = self.editions[e][c]
        return [0 if over is None else over + 1, sum_of(topics), sum_of(self.own(e, c))] + [ord(sign) for sign in code]

    def concord(self, e, c, f):
        if not self.there((e, c), (f, 0)):
            return [-7]
        topics = self.editions[e][c][2]
        found = self.meeting(topics, f)
        return row(found) + [sum_of(topics - {t for each in self.editions[f] for t in each[2]})]

    def through(self, e, f, g, c):
        if not self.there((e, c), (f, 0), (g, 0)):
            return [-7]
        topics = self.editions[e][c][2]
        carried = {t for k in self.meeting(topics, f) for t in self.own(f, k)}
        found = self.meeting(carried, g)
        return row(found) + row([k for k in found if k not in self.meeting(topics, g)])

    def holder(self, e, c, f):
        if not self.there((e, c), (f, 0)):
            return [-7]
        topics = self.editions[e][c][2]
        holders = [(len(each[2]), -k) for k, each in enumerate(self.editions[f]) if each[2] >= topics]
        if not holders:
            return [0]
        size, k = min(holders)
        return [1, -k, int(size == len(topics))]

    def paper(self, d, words, classes):
        if d not in range(1000) or words not in [sorted(set(words) & set(range(6)))]:
            return [-1]
        if len(classes) > 3 or any(c not in range(16) for c in classes):
            return [-1]
        if len(self.papers) == 12:
            return [-3]
        if not self.editions or any(c >= len(self.editions[-1]) for c in classes):
            return [-7]
        self.papers.append([set(self.editions[-1][c][2]) for c in classes])
        self.beside.append((d, words))
        return [len(self.papers) - 1]

    def mark(self, p, e, c):
        if p >= len(self.papers):
            return [-5]
        if not self.there((e, c)):
            return [-7]
        if len(self.papers[p]) == 3:
            return [-3]
        self.papers[p].append(set(self.editions[e][c][2]))
        return [len(self.papers[p]) - 1]

    def remark(self, p, i, e, c):
        if p >= len(self.papers):
            return [-5]
        if not self.there((e, c)):
            return [-7]
        if i >= len(self.papers[p]):
            return [-5]
        common = self.papers[p][i] & self.editions[e][c][2]
        if not common:
            return [-6]
        self.papers[p][i] = common
        return [len(common)]

    def unmark(self, p, i):
        if p >= len(self.papers) or i >= len(self.papers[p]):
            return [-5]
        self.papers[p] = self.papers[p][:i] + self.papers[p][i + 1:]
        return [len(self.papers[p])]

    def told(self, p):
        if p >= len(self.papers):
            return [-5]
        return [self.beside[p][0]] + row(self.beside[p][1]) + row([sum_of(mark) for mark in self.papers[p]])

    def ask(self, k, e, text):
        if k not in range(4) or e not in range(4) or len(text) > 60 or any(byte not in range(256) for byte in text):
            return [-1]
        if e >= len(self.editions):
            return [-7]
        topics = {each[0]: each[2] for each in self.editions[e]}
        own = {each[0]: self.own(e, c) for c, each in enumerate(self.editions[e])}
        part = Reader(topics, own).read(bytes(text).decode("latin-1"))
        if part is None:
            return [-6]
        self.queries[k] = (e, text, eval("lambda day, words, meant: " + part[0]), [])
        return [part[2]]

    def asks(self, k):
        return [self.queries[k][0]] + self.queries[k][1] if k in self.queries else [-8]

    def share(self, k, p):
        day, words = self.beside[p]
        meanings = list(itertools.product(*self.papers[p]))
        so = [meaning for meaning in meanings if self.queries[k][2](day, words, set(meaning))]
        return fractions.Fraction(len(so), len(meanings))

    def surely(self, k):
        return [p for p in range(len(self.papers)) if self.share(k, p) == 1]

    def find(self, k):
        if k not in self.queries:
            return [-8]
        return row(self.surely(k)) + row([p for p in range(len(self.papers)) if 0 < self.share(k, p) < 1])

    def likely(self, k, p):
        if k not in self.queries:
            return [-8]
        if p >= len(self.papers):
            return [-5]
        return [self.share(k, p).numerator, self.share(k, p).denominator]

    def ranked(self, k):
        if k not in self.queries:
            return [-8]
        found = sorted((-self.share(k, p), p) for p in range(len(self.papers)) if self.share(k, p))
        return [len(found)] + flat([p, -share.numerator, share.denominator] for share, p in found)

    def same(self, j, k):
        if j not in self.queries or k not in self.queries:
            return [-8]
        texts = bytes(self.queries[j][1] + self.queries[k][1]).decode()
        days = {0}
        for sign, day in re.findall("([<>])([0-9]+)", texts):
            days |= {int(day), int(day) + (1 if sign == "<" else -1)}
        told = {int(word) for word in re.findall("#([0-5])", texts)}
        one, two = self.queries[j][2], self.queries[k][2]
        for day in sorted(days & set(range(1000))):
            for words in WORDS:
                if words <= told:
                    for meant in MEANT:
                        if one(day, words, meant) != two(day, words, meant):
                            return [0, day] + row(sorted(words)) + row(sorted(meant))
        return [1]

    def news(self, k):
        if k not in self.queries:
            return [-8]
        fresh = [p for p in self.surely(k) if p not in self.queries[k][3]]
        self.queries[k][3].extend(fresh)
        return row(fresh)

    def counts(self):
        return [len(self.editions), len(self.papers)]


CALLS = {1: ("text", "e"), 2: ("class_", "ec"), 3: ("concord", "ecf"), 4: ("through", "efgc"), 5: ("holder", "ecf"),
         7: ("mark", "pec"), 8: ("remark", "piec"), 9: ("unmark", "pi"), 10: ("told", "p"), 12: ("asks", "k"),
         13: ("find", "k"), 14: ("likely", "kp"), 15: ("ranked", "k"), 16: ("same", "jk"), 17: ("news", "k"),
         18: ("counts", "")}
MOST = {"e": 3, "f": 3, "g": 3, "c": 15, "p": 11, "i": 2, "j": 3, "k": 3}


def some_text(source):
    """A text that is mostly right: each class under an earlier one or beside the others."""
    classes = []
    free = {None: set(range(12))}
    for place in range(source.choice([1, 2, 3, 5, 8, 16])):
        over = source.choice([each for each in free if free[each]] or [None])
        if not free[over]:
            break
        topics = source.sample(sorted(free[over]), source.randint(1, min(len(free[over]), source.choice([2, 12]))))
        free[over] -= set(topics)
        code = source.choice("ABXYZ") + source.choice(["", "1", "Q7"]) + str(place)
        free[code] = set(topics)
        classes.append(code + ("<" + over if over else "") + "=" + ",".join(str(t) for t in sorted(topics)) + ";")
    text = list("".join(classes)[:400].encode())
    if source.random() < 0.3 and text:
        spoil = source.randrange(len(text))
        text[spoil:spoil + source.randint(0, 1)] = source.choice(
            [[], [48], [49], [44], [59], [60], [61], [65], [97], [256], [-1], [GREATEST], [32]])
    return text[:400]


def some_number(source, most):
    if source.random() < 0.03:
        return source.choice([-1, most + 1, LEAST, GREATEST])
    return min(source.randint(0, most), source.randint(0, most))


def some_query(source, codes, deep):
    """A query that is right, but for some codes."""
    if deep == 0 or source.random() < 0.15:
        if source.random() < 0.6:
            return source.choice(codes) + source.choice(["", "", "!"])
        if source.random() < 0.5:
            return "#" + str(source.choice([0, 1, 5]))
        return source.choice("<>") + str(source.choice([0, 1, 2, 7, 500, 998, 999]))
    if source.random() < 0.3:
        return "-" + some_query(source, codes, deep - 1)
    pair = [some_query(source, codes, deep - 1) for count in range(2)]
    return "(" + pair[0] + source.choice("&|") + pair[1] + ")"


def some_query_text(source, codes):
    told = some_query(source, codes, source.choice([0, 1, 2, 2, 3]))
    if source.random() < 0.1:
        told = "-" * source.randint(0, 10) + told
    text = list(told.encode())[:source.choice([60, 60, 60, 61])]
    if source.random() < 0.15 and text:
        spoil = source.randrange(len(text))
        text[spoil:spoil + source.randint(0, 1)] = source.choice(
            [[], [33], [35], [38], [40], [41], [45], [48], [54], [60], [62], [65], [97], [124], [256], [-1], [32]])
    return text


def some_call(source, model, number):
    """A call with this number, as numbers, and what the model answers to it."""
    if number == 11:
        k, e = some_number(source, 3), some_number(source, 3)
        codes = [each[0] for each in model.editions[e]] if e in range(len(model.editions)) else ["A"]
        text = some_query_text(source, codes if source.random() < 0.95 else ["A", "B7", "ABCDEFG"])
        return [11, k, e] + row(text), model.ask(k, e, text)
    if number == 0:
        text = some_text(source)
        return [0] + row(text), model.edition(text)
    if number == 6:
        day = some_number(source, 999)
        words = [some_number(source, 5) for count in range(source.choice([0, 1, 2, 3]))]
        words = sorted(set(words)) if source.random() < 0.8 else words
        classes = [some_number(source, 5) for count in range(source.choice([0, 1, 1, 2, 2, 3, 3, 4]))]
        return [6, day] + row(words) + row(classes), model.paper(day, words, classes)
    name, kinds = CALLS[number]
    numbers = [some_number(source, MOST[kind]) for kind in kinds]
    if any(value not in range(MOST[kind] + 1) for kind, value in zip(kinds, numbers)):
        return [number] + numbers, [-1]
    return [number] + numbers, getattr(model, name)(*numbers)


def some_line(source):
    """Calls, each with what the model answers to it; many lines begin with what the later calls need."""
    numbers = [0, 0, 6, 6, 6, 6, 11, 11, 11, 11, 11, 11] if source.random() < 0.8 else []
    numbers += source.choices([0] + list(range(1, 10)) + [6, 7, 8, 8] + [10, 11, 11, 11, 12] + [13, 14, 15, 17] * 2
                              + [16, 18], k=source.choice([20, 60, 150]))
    model = Model()
    line = []
    for number in numbers:
        if number != 16 or sum(call[0] == 16 for call, answer in line) < 3:
            line.append(some_call(source, model, number))
    return line


def another_leaf(source, text):
    """The query with another leaf in the place of one."""
    places = [match.span() for match in re.finditer("[A-Z][A-Z0-9]*!?|#.|[<>][0-9]+", text)]
    start, end = source.choice(places)
    return text[:start] + some_query(source, list("ABCDEFG"), 0) + text[end:]


class AgainstTheModel(unittest.TestCase):
    def test_lines(self):
        seen = set()
        for seed in range(400):
            source = random.Random(seed)
            told = some_line(source)
            with self.subTest(seed=seed):
                expected = [answer for call, answer in told]
                self.assertEqual(rows_of(answers(flat(call for call, answer in told))), expected)
            seen |= {(call[0], min(answer[0], 0)) for call, answer in told}
        # The lines are worth something only if they come by every refusal of every call.
        refusals = {0: [-1, -3, -6], 1: [-1, -7], 2: [-1, -7], 3: [-1, -7], 4: [-1, -7], 5: [-1, -7],
                    6: [-1, -3, -7], 7: [-1, -3, -5, -7], 8: [-1, -5, -6, -7], 9: [-1, -5], 10: [-1, -5],
                    11: [-1, -6, -7], 12: [-1, -8], 13: [-1, -8], 14: [-1, -5, -8], 15: [-1, -8], 16: [-1, -8],
                    17: [-1, -8], 18: []}
        self.assertEqual(seen, {(call, told) for call in refusals for told in refusals[call] + [0]})

    def test_queries_that_differ_by_a_leaf(self):
        seen = []
        scheme = list(b"A=0,1,2,3,4,5;B<A=0,1;C<A=2,3,4;D<C=3;E=6,7;F=8,9,10;G<F=9;")
        for seed in range(300):
            source = random.Random(seed)
            text = some_query(source, list("ABCDEFG"), source.choice([1, 2, 3]))
            other = another_leaf(source, text)
            if max(len(text), len(other)) > 60:
                continue
            model = Model()
            model.edition(scheme)
            asked = [list(text.encode()), list(other.encode())]
            for k in range(2):
                model.ask(k, 0, asked[k])
            with self.subTest(text=text, other=other):
                calls = [[0] + row(scheme), [11, 0, 0] + row(asked[0]), [11, 1, 0] + row(asked[1]), [16, 0, 1]]
                answer = rows_of(answers(flat(calls)))[3]
                self.assertEqual(answer, model.same(0, 1))
            # Whether they differ on a later day, with words, with topics alone; or ask the same.
            seen.append(answer == [1] or (answer[1] > 0, answer[2] > 0, len(answer) > 4 + answer[2]))
        self.assertEqual(set(seen), {True, *itertools.product([False, True], repeat=3)})


if __name__ == "__main__":
    unittest.main()
