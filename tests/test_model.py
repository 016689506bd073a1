"""Many made-up lines against a second writing of the words, by Python's own sets and patterns."""

import random
import re
import unittest

from classeditions.desk import answers
from tests.helper import flat, GREATEST, LEAST, row, rows_of, sum_of

SENTENCE = re.compile(r"([A-Z][A-Z0-9]{0,5})(?:<([A-Z][A-Z0-9]{0,5}))?=((?:[0-9]|1[01])(?:,(?:[0-9]|1[01]))*)")


class Model:
    """Each call as a method; editions are lists of (code, over or None, set of topics)."""

    def __init__(self):
        self.editions = []
        self.texts = []
        self.papers = []

    def read(self, text):
        told = bytes(text).decode("latin-1")
        if not told.endswith(";"):
            return None
        classes = []
        for sentence in told[:-1].split(";"):
            match = SENTENCE.fullmatch(sentence)
            if not match:
                return None
            topics = [int(part) for part in match[3].split(",")]
            codes = [code for code, over, own in classes]
            if topics != sorted(set(topics)) or match[1] in codes or (match[2] and match[2] not in codes):
                return None
            over = codes.index(match[2]) if match[2] else None
            if over is not None and not set(topics) <= classes[over][2]:
                return None
            if any(other[1] == over and other[2] & set(topics) for other in classes):
                return None
            classes.append((match[1], over, set(topics)))
        return classes if len(classes) <= 16 else None

    def own(self, e, c):
        under = [topics for code, over, topics in self.editions[e] if over == c]
        return self.editions[e][c][2].difference(*under)

    def there(self, *pairs):
        return all(e < len(self.editions) and c < len(self.editions[e]) for e, c in pairs)

    def meeting(self, topics, f):
        return [k for k in range(len(self.editions[f])) if self.own(f, k) & topics]

    def edition(self, text):
        if len(text) > 400 or any(byte not in range(256) for byte in text):
            return [-1]
        if len(self.editions) == 4:
            return [-3]
        classes = self.read(text)
        if classes is None:
            return [-6]
        self.editions.append(classes)
        self.texts.append(text)
        return [len(self.editions) - 1, len(classes)]

    def text(self, e):
        return self.texts[e] if self.there((e, 0)) else [-7]

    def class_(self, e, c):
        if not self.there((e, c)):
            return [-7]
        code, over, topics = self.editions[e][c]
        return [0 if over is None else over + 1, sum_of(topics), sum_of(self.own(e, c))] + [ord(sign) for sign in code]

    def concord(self, e, c, f):
        if not self.there((e, c), (f, 0)):
            return [-7]
        topics = self.editions[e][c][2]
        found = self.meeting(topics, f)
        return row(found) + [sum_of(topics - {t for each in self.editions[f] for t in each[2]})]

    def through(self, e, f, g, c):
        if not self.there((e, c), (f, 0), (g, 0)):
            return [-7]
        topics = self.editions[e][c][2]
        carried = {t for k in self.meeting(topics, f) for t in self.own(f, k)}
        found = self.meeting(carried, g)
        return row(found) + row([k for k in found if k not in self.meeting(topics, g)])

    def holder(self, e, c, f):
        if not self.there((e, c), (f, 0)):
            return [-7]
        topics = self.editions[e][c][2]
        holders = [(len(each[2]), -k) for k, each in enumerate(self.editions[f]) if each[2] >= topics]
        if not holders:
            return [0]
        size, k = min(holders)
        return [1, -k, int(size == len(topics))]

    def paper(self, d, words, classes):
        if d not in range(1000) or words not in [sorted(set(words) & set(range(6)))]:
            return [-1]
        if len(classes) > 3 or any(c not in range(16) for c in classes):
            return [-1]
        if len(self.papers) == 12:
            return [-3]
        if not self.editions or any(c >= len(self.editions[-1]) for c in classes):
            return [-7]
        self.papers.append([set(self.editions[-1][c][2]) for c in classes])
        return [len(self.papers) - 1]

    def mark(self, p, e, c):
        if p >= len(self.papers):
            return [-5]
        if not self.there((e, c)):
            return [-7]
        if len(self.papers[p]) == 3:
            return [-3]
        self.papers[p].append(set(self.editions[e][c][2]))
        return [len(self.papers[p]) - 1]

    def remark(self, p, i, e, c):
        if p >= len(self.papers):
            return [-5]
        if not self.there((e, c)):
            return [-7]
        if i >= len(self.papers[p]):
            return [-5]
        common = self.papers[p][i] & self.editions[e][c][2]
        if not common:
            return [-6]
        self.papers[p][i] = common
        return [len(common)]

    def unmark(self, p, i):
        if p >= len(self.papers) or i >= len(self.papers[p]):
            return [-5]
        self.papers[p] = self.papers[p][:i] + self.papers[p][i + 1:]
        return [len(self.papers[p])]


CALLS = {1: ("text", "e"), 2: ("class_", "ec"), 3: ("concord", "ecf"), 4: ("through", "efgc"), 5: ("holder", "ecf"),
         7: ("mark", "pec"), 8: ("remark", "piec"), 9: ("unmark", "pi")}
MOST = {"e": 3, "f": 3, "g": 3, "c": 15, "p": 11, "i": 2}


def some_text(source):
    """A text that is mostly right: each class under an earlier one or beside the others."""
    classes = []
    free = {None: set(range(12))}
    for place in range(source.choice([1, 2, 3, 5, 8, 16])):
        over = source.choice([each for each in free if free[each]] or [None])
        if not free[over]:
            break
        topics = source.sample(sorted(free[over]), source.randint(1, min(len(free[over]), source.choice([2, 12]))))
        free[over] -= set(topics)
        code = source.choice("ABXYZ") + source.choice(["", "1", "Q7"]) + str(place)
        free[code] = set(topics)
        classes.append(code + ("<" + over if over else "") + "=" + ",".join(str(t) for t in sorted(topics)) + ";")
    text = list("".join(classes)[:400].encode())
    if source.random() < 0.3 and text:
        spoil = source.randrange(len(text))
        text[spoil:spoil + source.randint(0, 1)] = source.choice(
            [[], [48], [49], [44], [59], [60], [61], [65], [97], [256], [-1], [GREATEST], [32]])
    return text[:400]


def some_number(source, most):
    if source.random() < 0.03:
        return source.choice([-1, most + 1, LEAST, GREATEST])
    return min(source.randint(0, most), source.randint(0, most))


def some_call(source, model):
    """A call as numbers, and what the model answers to it."""
    number = source.choice([0, 1, 2, 3, 3, 4, 4, 5, 5, 6, 6, 7, 7, 8, 8, 8, 9])
    if number == 0:
        text = some_text(source)
        return [0] + row(text), model.edition(text)
    if number == 6:
        day = some_number(source, 999)
        words = [some_number(source, 5) for count in range(source.choice([0, 1, 2, 3]))]
        words = sorted(set(words)) if source.random() < 0.8 else words
        classes = [some_number(source, 5) for count in range(source.choice([0, 1, 1, 2, 2, 3, 3, 4]))]
        return [6, day] + row(words) + row(classes), model.paper(day, words, classes)
    name, kinds = CALLS[number]
    numbers = [some_number(source, MOST[kind]) for kind in kinds]
    if any(value not in range(MOST[kind] + 1) for kind, value in zip(kinds, numbers)):
        return [number] + numbers, [-1]
    return [number] + numbers, getattr(model, name)(*numbers)


class AgainstTheModel(unittest.TestCase):
    def test_lines(self):
        seen = set()
        for seed in range(400):
            source = random.Random(seed)
            model = Model()
            told = [some_call(source, model) for count in range(source.choice([20, 60, 150]))]
            with self.subTest(seed=seed):
                expected = [answer for call, answer in told]
                self.assertEqual(rows_of(answers(flat(call for call, answer in told))), expected)
            seen |= {(call[0], min(answer[0], 0)) for call, answer in told}
        # The lines are worth something only if they come by every refusal of every call.
        refusals = {0: [-1, -3, -6], 1: [-1, -7], 2: [-1, -7], 3: [-1, -7], 4: [-1, -7], 5: [-1, -7],
                    6: [-1, -3, -7], 7: [-1, -3, -5, -7], 8: [-1, -5, -6, -7], 9: [-1, -5]}
        self.assertEqual(seen, {(call, told) for call in refusals for told in refusals[call] + [0]})


if __name__ == "__main__":
    unittest.main()
