"""The examples of the document."""

import unittest

from tests.helper import ask, class_, concord, edition, find, likely, marks_of, paper, run, SINGLES, told

FIRST = edition("A=0,1,2,3;A1<A=0,1;B=4,5;")
SECOND = edition("C=0,4;D=1,2,3,5;")


class Examples(unittest.TestCase):
    def test_answers(self):
        self.assertEqual(
            run(FIRST, class_(0, 0), paper(10, [2], [1]), SECOND, concord(0, 1, 1), ask(0, 1, "C"), find(0),
                likely(0, 0), ask(1, 1, "(C|-C)"), find(1)),
            [[0, 3], [0, 15, 12, 65], [0], [1, 2], [2, 0, 1, 0], [1], [0, 1, 0], [1, 2], [4], [1, 0, 0]],
        )

    def test_the_papers_mark_is_3(self):
        calls = [FIRST, paper(10, [2], [1]), edition(SINGLES)]
        self.assertEqual(marks_of(calls, 0, 1), [3])
        self.assertEqual(run(*calls, told(0))[-1], [10, 1, 2, 1, 3])


if __name__ == "__main__":
    unittest.main()
