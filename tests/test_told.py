"""Calls 10 and 18: what is told of a paper, and the counts."""

import unittest

from tests.helper import (ask, counts, edition, GREATEST, last, LEAST, mark, paper, remark, run, SINGLES, told, unmark)

ONE = edition(SINGLES)
TWO = edition("A=0,1,2,3;B<A=0,1;C=4,5;D=9,10,11;")


class Told(unittest.TestCase):
    def test_day_words_marks(self):
        for day, words, classes, answered in [
            (0, [], [], [0, 0, 0]),
            (999, [0], [0], [999, 1, 0, 1, 15]),
            (10, [2, 4], [1, 2], [10, 2, 2, 4, 2, 3, 48]),
            (7, [0, 1, 2, 3, 4, 5], [3, 0, 3], [7, 6, 0, 1, 2, 3, 4, 5, 3, 3584, 15, 3584]),
        ]:
            with self.subTest(answered=answered):
                self.assertEqual(last(TWO, paper(day, words, classes), told(0)), answered)

    def test_each_paper_by_itself(self):
        self.assertEqual(run(TWO, paper(1, [1], [0]), paper(2, [], []), told(1), told(0), told(1))[3:],
                         [[2, 0, 0], [1, 1, 1, 1, 15], [2, 0, 0]])

    def test_marks_that_changed(self):
        self.assertEqual(
            run(ONE, TWO, paper(5, [3], [0]), mark(0, 1, 2), told(0), remark(0, 0, 0, 3), told(0), unmark(0, 0),
                told(0), remark(0, 0, 0, 0), told(0))[3:],
            [[1], [5, 1, 3, 2, 15, 48], [1], [5, 1, 3, 2, 8, 48], [1], [5, 1, 3, 1, 48], [-6], [5, 1, 3, 1, 48]],
        )

    def test_refused(self):
        for p in [-1, 12, LEAST, GREATEST]:
            self.assertEqual(last(told(p)), [-1])
            self.assertEqual(last(ONE, paper(0, [], []), told(p)), [-1])
        for p in [1, 2, 11]:
            self.assertEqual(last(ONE, paper(0, [], []), told(p)), [-5])
        self.assertEqual(last(told(0)), [-5])

    def test_the_twelfth(self):
        self.assertEqual(last(ONE, *[paper(p, [], [p]) for p in range(12)], told(11)), [11, 0, 1, 2048])


class Counts(unittest.TestCase):
    def test_editions_and_papers(self):
        self.assertEqual(run(counts(), ONE, counts(), paper(0, [], []), counts(), TWO, counts(), paper(0, [], []),
                             counts())[::2], [[0, 0], [1, 0], [1, 1], [2, 1], [2, 2]])

    def test_what_is_refused_isnt_counted(self):
        self.assertEqual(last(paper(0, [], []), edition("A"), counts()), [0, 0])
        self.assertEqual(last(*[ONE] * 5, *[paper(0, [], [])] * 13, ask(0, 0, "A"), counts()), [4, 12])


if __name__ == "__main__":
    unittest.main()
