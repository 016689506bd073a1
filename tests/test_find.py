"""Calls 13 to 15: what a query finds, surely or maybe, and how likely."""

import unittest

from tests.helper import ask, edition, find, GREATEST, last, LEAST, likely, mark, paper, ranked, remark, run, unmark

OUTSIDE = [-1, LEAST, GREATEST]
# W has all topics; T, U, V, X, N have one, two, three, four, two of them.
WIDE = edition("W=0,1,2,3,4,5,6,7,8,9,10,11;T<W=0;U<W=1,2;V<W=3,4,5;X<W=6,7,8,9;N<W=10,11;")
W, T, U, V, X, N = range(6)
HALVES = edition("A=0,1,3,6,10;B=2,4,5,7,8,9,11;")


def with_query(text, papers, e=1):
    return [WIDE, HALVES, WIDE] + [paper(*each) for each in papers] + [ask(0, e, text)]


class Find(unittest.TestCase):
    def assert_finds(self, text, papers, surely, maybe, e=1):
        with self.subTest(text=text, papers=papers):
            self.assertEqual(last(*with_query(text, papers, e), find(0)),
                             [len(surely)] + surely + [len(maybe)] + maybe)

    def test_no_papers(self):
        self.assert_finds("A", [], [], [])
        self.assert_finds("-A", [], [], [])

    def test_a_paper_without_marks(self):
        self.assert_finds("A", [(0, [], [])], [], [])
        self.assert_finds("-A", [(0, [], [])], [0], [])
        self.assert_finds("(A|<0)", [(0, [], []), (1, [], [])], [0], [])

    def test_one_mark(self):
        papers = [(0, [], [c]) for c in [W, T, U, V, X, N]]
        self.assert_finds("A", papers, [1], [0, 2, 3, 4, 5])
        self.assert_finds("B", papers, [], [0, 2, 3, 4, 5])
        self.assert_finds("(A|B)", papers, [0, 1, 2, 3, 4, 5], [])
        self.assert_finds("(A&B)", papers, [], [])
        self.assert_finds("-B", papers, [1], [0, 2, 3, 4, 5])

    def test_two_marks(self):
        papers = [(0, [], [T, T]), (0, [], [T, U]), (0, [], [U, U]), (0, [], [V, N])]
        self.assert_finds("A", papers, [0, 1], [2, 3])
        self.assert_finds("-A", papers, [], [2, 3])
        self.assert_finds("(A&B)", papers, [], [1, 2, 3])

    def test_three_marks(self):
        papers = [(0, [], [T, U, V]), (0, [], [U, U, U]), (0, [], [X, V, N])]
        self.assert_finds("A", papers, [0], [1, 2])
        self.assert_finds("-(A&B)", papers, [], [0, 1, 2])

    def test_words_and_days(self):
        papers = [(5, [0], [U]), (6, [0], [U]), (5, [1], [U]), (6, [1], [U])]
        self.assert_finds("(#0&A)", papers, [], [0, 1])
        self.assert_finds("(#0|A)", papers, [0, 1], [2, 3])
        self.assert_finds("(<5&(#1|-A))", papers, [2], [0])
        self.assert_finds(">6", papers, [1, 3], [])

    def test_twelve_papers_going_up(self):
        papers = [(p, [], [U] if p % 3 == 0 else [T]) for p in range(12)]
        self.assert_finds("A", papers, [1, 2, 4, 5, 7, 8, 10, 11], [0, 3, 6, 9])

    def test_marks_that_changed(self):
        calls = with_query("A", [(0, [], [U])])
        self.assertEqual(
            run(*calls, find(0), remark(0, 0, 1, 1), find(0), mark(0, 0, T), find(0), unmark(0, 0), find(0),
                unmark(0, 0), find(0))[5::2],
            [[0, 1, 0], [0, 0], [1, 0, 0], [1, 0, 0], [0, 0]],
        )

    def test_papers_that_come_later(self):
        calls = with_query("A", [])
        self.assertEqual(run(*calls, find(0), paper(0, [], [T]), find(0), paper(0, [], [U]), find(0))[4::2],
                         [[0, 0], [1, 0, 0], [1, 0, 1, 1]])

    def test_the_place_that_is_told(self):
        calls = with_query("A", [(0, [], [T])]) + [ask(3, 1, "-A"), ask(1, 1, "A")]
        self.assertEqual(run(*calls, find(0), find(3), find(1), find(2))[7:], [[1, 0, 0], [0, 0], [1, 0, 0], [-8]])


class Likely(unittest.TestCase):
    def assert_likely(self, text, classes, numerator, denominator):
        with self.subTest(text=text, classes=classes):
            self.assertEqual(last(*with_query(text, [(0, [], classes)]), likely(0, 0)), [numerator, denominator])

    def test_no_marks(self):
        self.assert_likely("A", [], 0, 1)
        self.assert_likely("-A", [], 1, 1)

    def test_one_mark(self):
        self.assert_likely("A", [T], 1, 1)
        self.assert_likely("B", [T], 0, 1)
        self.assert_likely("A", [U], 1, 2)
        self.assert_likely("A", [V], 1, 3)
        self.assert_likely("B", [V], 2, 3)
        self.assert_likely("A", [X], 1, 4)
        self.assert_likely("-A", [X], 3, 4)
        self.assert_likely("A", [W], 5, 12)
        self.assert_likely("B", [W], 7, 12)
        self.assert_likely("(A&B)", [W], 0, 1)
        self.assert_likely("(A|B)", [W], 1, 1)

    def test_two_marks(self):
        # Of the meanings of two marks, each is counted: both 1, both 2, or one each.
        self.assert_likely("A", [U, U], 3, 4)
        self.assert_likely("(A&B)", [U, U], 1, 2)
        self.assert_likely("-A", [U, U], 1, 4)
        self.assert_likely("A", [U, V], 2, 3)
        self.assert_likely("(A&B)", [V, X], 5, 12)
        self.assert_likely("A", [T, W], 1, 1)
        self.assert_likely("-A", [T, W], 0, 1)
        self.assert_likely("(A&B)", [W, W], 35, 72)

    def test_three_marks(self):
        self.assert_likely("A", [U, U, U], 7, 8)
        self.assert_likely("A", [U, V, X], 3, 4)
        self.assert_likely("(A&B)", [U, U, U], 3, 4)
        self.assert_likely("(A&B)", [W, W, W], 35, 48)
        self.assert_likely("B", [W, W, W], 1603, 1728)
        self.assert_likely("-(A|B)", [W, W, W], 0, 1)
        self.assert_likely("(A|B)", [W, W, W], 1, 1)

    def test_own_topics(self):
        calls = with_query("W!", [(0, [], [W]), (0, [], [X])], 0)
        self.assertEqual(run(*calls, likely(0, 0), likely(0, 1), ask(0, 0, "-W!"), likely(0, 0))[6:],
                         [[0, 1], [0, 1], [2], [1, 1]])

    def test_words_and_days(self):
        calls = with_query("((A&#2)|>9)", [(8, [2], [U]), (8, [], [U]), (9, [], [U])])
        self.assertEqual(run(*calls, *[likely(0, p) for p in range(3)])[7:], [[1, 2], [0, 1], [1, 1]])

    def test_marks_that_changed(self):
        calls = with_query("A", [(0, [], [W])])
        self.assertEqual(
            run(*calls, likely(0, 0), remark(0, 0, 0, X), likely(0, 0), mark(0, 0, V), likely(0, 0), unmark(0, 0),
                likely(0, 0))[5::2],
            [[5, 12], [1, 4], [1, 2], [1, 3]],
        )

    def test_refused(self):
        calls = with_query("A", [(0, [], [W])])
        for value in OUTSIDE:
            for each in [likely(value, 0), likely(0, value), likely(4, 0), likely(0, 12), likely(1, 12), likely(4, 1)]:
                self.assertEqual(last(*calls, each), [-1])
                self.assertEqual(last(each), [-1])
        self.assertEqual(run(*calls, likely(1, 0), likely(3, 0), likely(0, 1), likely(0, 11))[5:],
                         [[-8], [-8], [-5], [-5]])
        # -8 ahead of -5
        self.assertEqual(run(*calls, likely(1, 1), likely(3, 11))[5:], [[-8], [-8]])
        self.assertEqual(last(likely(0, 0)), [-8])


class Ranked(unittest.TestCase):
    def assert_ranked(self, text, papers, rows):
        with self.subTest(text=text, papers=papers):
            self.assertEqual(last(*with_query(text, papers), ranked(0)),
                             [len(rows)] + [number for each in rows for number in each])

    def test_none(self):
        self.assert_ranked("A", [], [])
        self.assert_ranked("A", [(0, [], []), (0, [], [])], [])

    def test_the_likeliest_first(self):
        papers = [(0, [], [X]), (0, [], [T]), (0, [], [V]), (0, [], []), (0, [], [W]), (0, [], [U])]
        self.assert_ranked("A", papers, [(1, 1, 1), (5, 1, 2), (4, 5, 12), (2, 1, 3), (0, 1, 4)])
        self.assert_ranked("B", papers, [(0, 3, 4), (2, 2, 3), (4, 7, 12), (5, 1, 2)])

    def test_alike_ones_by_their_number(self):
        papers = [(0, [], [U]), (0, [], [T]), (0, [], [X]), (0, [], [N]), (0, [], [T, U]), (0, [], [U]), (0, [], [X])]
        self.assert_ranked("A", papers, [(1, 1, 1), (4, 1, 1), (0, 1, 2), (3, 1, 2), (5, 1, 2), (2, 1, 4), (6, 1, 4)])

    def test_alike_with_other_counts_of_meanings(self):
        # 3 of 6 and 2 of 4 meanings are alike, 5 of 12 are less.
        papers = [(0, [], [U, V]), (0, [], [U, U]), (0, [], [U]), (0, [], [V, X])]
        self.assert_ranked("(A&B)", papers, [(0, 1, 2), (1, 1, 2), (3, 5, 12)])

    def test_close_ones(self):
        # 1603 of 1728, and the marks U U U: 7 of 8, which is 1512 of 1728.
        papers = [(0, [], [U, U, U]), (0, [], [W, W, W]), (0, [], [X, X, V])]
        self.assert_ranked("B", papers, [(2, 47, 48), (1, 1603, 1728), (0, 7, 8)])

    def test_closer_ones(self):
        # 25 of 27 is 1600 of 1728.
        wide = edition("W=0,1,2,3,4,5,6,7,8,9,10,11;P<W=0,1,2;Q<W=3,4,5;R<W=6,7,8;S<W=9,10,11;")
        calls = [edition("A=0,1,3,6,7,9,10;"), wide, paper(0, [], [1, 2, 3]), paper(0, [], [0, 0, 0]), ask(0, 0, "A")]
        self.assertEqual(last(*calls, ranked(0)), [2, 1, 1603, 1728, 0, 25, 27])

    def test_twelve(self):
        papers = [(p, [], [[U], [T], [X]][p % 3]) for p in range(12)]
        self.assert_ranked("A", papers, [(p, 1, 1) for p in [1, 4, 7, 10]] + [(p, 1, 2) for p in [0, 3, 6, 9]]
                           + [(p, 1, 4) for p in [2, 5, 8, 11]])


class Refused(unittest.TestCase):
    def test_find_and_ranked(self):
        for call in [find, ranked]:
            calls = with_query("A", [(0, [], [W])])
            for k in OUTSIDE + [4]:
                self.assertEqual(last(call(k)), [-1])
                self.assertEqual(last(*calls, call(k)), [-1])
            for k in range(4):
                self.assertEqual(last(call(k)), [-8])
            for k in range(1, 4):
                self.assertEqual(last(*calls, call(k)), [-8])

    def test_a_refused_ask_doesnt_fill_a_place(self):
        self.assertEqual(run(WIDE, ask(0, 0, "?"), find(0), likely(0, 0), ranked(0))[1:], [[-6], [-8], [-8], [-8]])


if __name__ == "__main__":
    unittest.main()
