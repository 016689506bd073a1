"""Call 17: what is new."""

import unittest

from tests.helper import ask, edition, find, GREATEST, last, LEAST, mark, news, paper, remark, run, SINGLES, unmark

ONE = edition(SINGLES)
TWO = edition("P=0,1;Q<P=0;R=2,3;")


class News(unittest.TestCase):
    def test_told_once(self):
        calls = [ONE, paper(0, [], [0]), paper(0, [], [1]), paper(0, [], [0]), ask(0, 0, "A")]
        self.assertEqual(run(*calls, news(0), news(0), news(0))[5:], [[2, 0, 2], [0], [0]])

    def test_later_papers(self):
        calls = [ONE, ask(0, 0, "A"), news(0), paper(0, [], [0]), paper(0, [], [1]), news(0), paper(0, [], [0]),
                 paper(0, [], [0]), news(0), news(0)]
        self.assertEqual([run(*calls)[place] for place in [2, 5, 8, 9]], [[0], [1, 0], [2, 2, 3], [0]])

    def test_surely_alone(self):
        calls = [ONE, TWO, paper(0, [], [0]), paper(0, [], [1]), ask(0, 0, "A")]
        self.assertEqual(run(*calls, find(0), news(0))[5:], [[1, 1, 1, 0], [1, 1]])

    def test_found_surely_only_later(self):
        calls = [ONE, TWO, paper(0, [], [0]), paper(0, [], [1]), ask(0, 0, "A")]
        self.assertEqual(run(*calls, news(0), remark(0, 0, 0, 0), news(0), news(0))[5:], [[1, 1], [1], [1, 0], [0]])
        self.assertEqual(run(*calls, news(0), mark(0, 0, 0), news(0))[5:], [[1, 1], [1], [1, 0]])

    def test_not_told_again_after_it_was_lost(self):
        calls = [ONE, paper(0, [], [0]), ask(0, 0, "A"), news(0), unmark(0, 0), news(0), mark(0, 0, 0), news(0)]
        self.assertEqual(run(*calls)[3::2], [[1, 0], [0], [0]])

    def test_lost_before_it_was_told(self):
        calls = [ONE, paper(0, [], [0]), ask(0, 0, "A"), unmark(0, 0), news(0), mark(0, 0, 0), news(0)]
        self.assertEqual(run(*calls)[4::2], [[0], [1, 0]])

    def test_anew_after_ask(self):
        calls = [ONE, paper(0, [], [0]), paper(0, [], [1]), ask(0, 0, "A"), news(0)]
        self.assertEqual(run(*calls, ask(0, 0, "A"), news(0), news(0))[4:], [[1, 0], [1], [1, 0], [0]])
        self.assertEqual(run(*calls, ask(0, 0, "(A|B)"), news(0), news(0))[4:], [[1, 0], [3], [2, 0, 1], [0]])

    def test_not_anew_after_a_refused_ask(self):
        calls = [ONE, paper(0, [], [0]), ask(0, 0, "A"), news(0)]
        for refused in [ask(0, 0, "?"), ask(0, 1, "A"), ask(0, 4, "A"), ask(0, 0, [300])]:
            self.assertEqual(last(*calls, refused, news(0)), [0])

    def test_each_place_by_itself(self):
        calls = [ONE, paper(0, [], [0]), ask(0, 0, "A"), ask(3, 0, "A"), news(0), news(3), news(0), ask(0, 0, "A"),
                 news(3), news(0)]
        self.assertEqual(run(*calls)[4:], [[1, 0], [1, 0], [0], [1], [0], [1, 0]])

    def test_finding_isnt_telling(self):
        calls = [ONE, paper(0, [], [0]), ask(0, 0, "A"), find(0), news(0), find(0)]
        self.assertEqual(run(*calls)[3:], [[1, 0, 0], [1, 0], [1, 0, 0]])

    def test_twelve(self):
        calls = [ONE] + [paper(p, [], []) for p in range(12)] + [ask(1, 0, "-A"), news(1), news(1)]
        self.assertEqual(run(*calls)[14:], [[12] + list(range(12)), [0]])

    def test_later_editions(self):
        calls = [edition("A=0;B=1;"), ask(0, 0, "A"), paper(0, [], [0]), news(0), edition("A=1;B=0;"),
                 paper(0, [], [0]), paper(0, [], [1]), news(0)]
        self.assertEqual(run(*calls)[3::4], [[1, 0], [1, 2]])

    def test_refused(self):
        for k in [-1, 4, LEAST, GREATEST]:
            self.assertEqual(last(news(k)), [-1])
            self.assertEqual(last(ONE, ask(0, 0, "A"), news(k)), [-1])
        for k in range(4):
            self.assertEqual(last(news(k)), [-8])
        for k in range(1, 4):
            self.assertEqual(last(ONE, ask(0, 0, "A"), news(k)), [-8])


if __name__ == "__main__":
    unittest.main()
