"""The examples of the document, as far as the calls 0 to 9 go."""

import unittest

from tests.helper import class_, concord, edition, marks_of, paper, run, SINGLES

FIRST = edition("A=0,1,2,3;A1<A=0,1;B=4,5;")
SECOND = edition("C=0,4;D=1,2,3,5;")


class Examples(unittest.TestCase):
    def test_answers(self):
        self.assertEqual(
            run(FIRST, class_(0, 0), paper(10, [2], [1]), SECOND, concord(0, 1, 1)),
            [[0, 3], [0, 15, 12, 65], [0], [1, 2], [2, 0, 1, 0]],
        )

    def test_the_papers_mark_is_3(self):
        calls = [FIRST, paper(10, [2], [1]), edition(SINGLES)]
        self.assertEqual(marks_of(calls, 0, 1), [3])


if __name__ == "__main__":
    unittest.main()
