"""Calls 6 to 9: papers and their marks."""

import unittest

from tests.helper import (edition, GREATEST, last, LEAST, mark, marks_of, paper, remark, run, SINGLES, sum_of, told,
                          unmark)

ONE = edition(SINGLES)
TWO = edition("A=0,1,2,3;B<A=0,1;C=4,5;D=9,10,11;")
OUTSIDE = [-1, LEAST, GREATEST]


class NewPaper(unittest.TestCase):
    def test_numbers_go_up(self):
        self.assertEqual(run(ONE, *[paper(p, [], []) for p in range(12)])[1:], [[p] for p in range(12)])

    def test_marks(self):
        for classes, marks in [([], []), ([0], [15]), ([1, 2], [3, 48]), ([3, 2, 0], [3584, 48, 15]),
                               ([1, 1], [3, 3]), ([2, 2, 2], [48, 48, 48]), ([0, 1, 0], [15, 3, 15])]:
            with self.subTest(classes=classes):
                self.assertEqual(marks_of([ONE, TWO, paper(0, [], classes)], 0, 0), marks)

    def test_the_last_edition_counts(self):
        calls = [TWO, paper(0, [], [0]), ONE, paper(0, [], [0])]
        self.assertEqual(marks_of(calls, 0, 1), [15])
        self.assertEqual(marks_of(calls, 1, 1), [1])

    def test_day_and_words_are_kept(self):
        self.assertEqual(last(ONE, paper(10, [2, 4], [1, 3]), told(0)), [10, 2, 2, 4, 2, 2, 8])

    def test_days(self):
        for day in [0, 1, 500, 999]:
            self.assertEqual(last(ONE, paper(day, [], [])), [0])
        for day in OUTSIDE + [1000]:
            self.assertEqual(run(ONE, paper(day, [], []), paper(0, [], []))[1:], [[-1], [0]])

    def test_words(self):
        for words in [[], [0], [5], [0, 5], [1, 2, 4], [0, 1, 2, 3, 4, 5]]:
            self.assertEqual(last(ONE, paper(0, words, [])), [0])

    def test_words_not_as_told(self):
        for words in [[-1], [6], [LEAST], [GREATEST], [0, 6], [-1, 0], [1, 0], [0, 0], [5, 5], [0, 1, 1], [0, 2, 1],
                      [0, 1, 2, 3, 4, 5, 5], [0, 1, 2, 3, 4, 5, 6], list(range(400)), [0] * 400]:
            with self.subTest(words=words):
                self.assertEqual(run(ONE, paper(0, words, []), paper(0, [], []))[1:], [[-1], [0]])

    def test_classes_not_as_told(self):
        for classes in [[-1], [16], [LEAST], [GREATEST], [0, -1], [0, 0, 16], [0, 1, 2, 3], [0, 0, 0, 0], [0] * 400]:
            with self.subTest(classes=classes):
                self.assertEqual(run(ONE, paper(0, [], classes), paper(0, [], []))[1:], [[-1], [0]])

    def test_no_edition(self):
        for classes in [[], [0], [0, 1, 2]]:
            self.assertEqual(run(paper(0, [], classes), ONE, paper(0, [], [])), [[-7], [0, 12], [0]])

    def test_no_such_class(self):
        for classes in [[4], [15], [0, 4], [4, 0], [0, 1, 4], [0, 4, 1]]:
            with self.subTest(classes=classes):
                # The first edition has class 4, but the last one counts.
                self.assertEqual(run(ONE, TWO, paper(0, [], classes), paper(0, [], [3]))[2:], [[-7], [0]])

    def test_twelve_papers(self):
        twelve = [ONE] + [paper(p, [], [0]) for p in range(12)]
        self.assertEqual(run(*twelve, paper(0, [], []), paper(0, [0], [1]))[13:], [[-3], [-3]])
        self.assertEqual(marks_of(twelve + [paper(0, [], [5])], 11, 0), [1])

    def test_order(self):
        twelve = [ONE] + [paper(p, [], [0]) for p in range(12)]
        self.assertEqual(last(*twelve, paper(0, [], [12])), [-3])
        for refused in [paper(1000, [], []), paper(0, [6], []), paper(0, [1, 0], []), paper(0, [], [16])]:
            self.assertEqual(last(*twelve, refused), [-1])
            self.assertEqual(last(refused), [-1])
        self.assertEqual(last(ONE, paper(0, [6], [12])), [-1])


class Mark(unittest.TestCase):
    def test_one_more_mark(self):
        calls = [ONE, TWO, paper(0, [], [])]
        more = [mark(0, 1, 0), mark(0, 0, 11), mark(0, 1, 1)]
        self.assertEqual(run(*calls, *more)[3:], [[0], [1], [2]])
        self.assertEqual(marks_of(calls + more, 0, 0), [15, 2048, 3])

    def test_behind_those_of_the_paper(self):
        calls = [ONE, TWO, paper(0, [], [2]), mark(0, 1, 2)]
        self.assertEqual(last(*calls), [1])
        self.assertEqual(marks_of(calls, 0, 0), [48, 48])

    def test_the_paper_that_is_told(self):
        calls = [ONE, paper(0, [], [0]), paper(0, [], [0]), paper(0, [], [0]), mark(1, 0, 7)]
        self.assertEqual([marks_of(calls, p, 0) for p in range(3)], [[1], [1, 128], [1]])

    def test_three_marks(self):
        calls = [ONE, TWO, paper(0, [], [0, 1, 2]), mark(0, 1, 3)]
        self.assertEqual(last(*calls), [-3])
        self.assertEqual(marks_of(calls, 0, 0), [15, 3, 48])

    def test_out_of_range(self):
        calls = [ONE, paper(0, [], [0, 1, 2])]
        for place, most in enumerate([11, 3, 15]):
            for value in OUTSIDE + [most + 1]:
                numbers = [0, 0, 0]
                numbers[place] = value
                with self.subTest(numbers=numbers):
                    self.assertEqual(last(*calls, mark(*numbers)), [-1])
                    self.assertEqual(last(mark(*numbers)), [-1])

    def test_the_ends_of_the_ranges(self):
        calls = [ONE] * 3 + [edition(SINGLES + "A1<A=0;A2<A1=0;A3<A2=0;A4<A3=0;")] + [paper(0, [], [])] * 12
        self.assertEqual(last(*calls, mark(11, 3, 15)), [0])

    def test_no_such_paper(self):
        for p in [1, 2, 11]:
            calls = [ONE, paper(0, [], []), mark(p, 0, 0)]
            self.assertEqual(last(*calls), [-5])
            self.assertEqual(marks_of(calls, 0, 0), [])

    def test_no_such_edition_or_class(self):
        calls = [ONE, TWO, paper(0, [], [0])]
        for e, c in [(2, 0), (3, 0), (0, 12), (1, 4), (0, 15)]:
            self.assertEqual(last(*calls, mark(0, e, c)), [-7])
            self.assertEqual(marks_of(calls + [mark(0, e, c)], 0, 0), [15])

    def test_order(self):
        three = [ONE, paper(0, [], [0, 1, 2])]
        self.assertEqual(last(*three, mark(1, 1, 0)), [-5])
        self.assertEqual(last(*three, mark(1, 0, 12)), [-5])
        self.assertEqual(last(*three, mark(0, 1, 0)), [-7])
        self.assertEqual(last(*three, mark(0, 0, 12)), [-7])
        self.assertEqual(last(mark(0, 0, 0)), [-5])


class Remark(unittest.TestCase):
    def test_what_both_have(self):
        wide = edition("A=0,1,2,3,4,5,6,7,8,9,10,11;")
        cut = edition("X=1,3,5,7;Y=0,2,4;Z=11;")
        calls = [ONE, cut, wide, paper(0, [], [0, 0, 0])]
        more = [remark(0, 0, 1, 0), remark(0, 1, 1, 1), remark(0, 2, 1, 2)]
        self.assertEqual(run(*calls, *more)[4:], [[4], [3], [1]])
        self.assertEqual(marks_of(calls + more, 0, 0), [sum_of([1, 3, 5, 7]), sum_of([0, 2, 4]), sum_of([11])])

    def test_narrower_and_narrower(self):
        calls = [ONE, edition("A=0,1,2,3;B=4;"), edition("C=1,2,3,4;"), edition("D=0,3,5;"), paper(0, [], [0])]
        self.assertEqual(marks_of(calls, 0, 0), [sum_of([0, 3, 5])])
        more = [remark(0, 0, 1, 0), remark(0, 0, 2, 0), remark(0, 0, 2, 0)]
        self.assertEqual(run(*calls, *more)[5:], [[2], [1], [1]])
        self.assertEqual(marks_of(calls + more, 0, 0), [8])

    def test_the_class_stays_as_it_is(self):
        calls = [ONE, TWO, paper(0, [], [0]), remark(0, 0, 0, 2), paper(0, [], [0])]
        self.assertEqual(marks_of(calls, 0, 0), [4])
        self.assertEqual(marks_of(calls, 1, 0), [15])

    def test_all_topics_of_the_class_count_not_its_own_alone(self):
        self.assertEqual(last(ONE, TWO, paper(0, [], [1]), remark(0, 0, 1, 0)), [2])

    def test_nothing_in_common(self):
        calls = [ONE, TWO, paper(0, [], [0, 2]), remark(0, 0, 1, 2), remark(0, 1, 1, 0)]
        self.assertEqual(run(*calls)[3:], [[-6], [-6]])
        self.assertEqual(marks_of(calls, 0, 0), [15, 48])

    def test_out_of_range(self):
        calls = [ONE, paper(0, [], [0])]
        for place, most in enumerate([11, 2, 3, 15]):
            for value in OUTSIDE + [most + 1]:
                numbers = [0, 0, 0, 0]
                numbers[place] = value
                with self.subTest(numbers=numbers):
                    self.assertEqual(last(*calls, remark(*numbers)), [-1])
                    self.assertEqual(last(remark(*numbers)), [-1])

    def test_the_ends_of_the_ranges(self):
        calls = [ONE] * 3 + [edition(SINGLES + "A1<A=0;A2<A1=0;A3<A2=0;A4<A3=0;")] + [paper(0, [], [0, 0, 0])] * 12
        self.assertEqual(last(*calls, remark(11, 2, 3, 15)), [1])

    def test_no_such_paper(self):
        self.assertEqual(last(ONE, paper(0, [], [0]), remark(1, 0, 0, 0)), [-5])
        self.assertEqual(last(ONE, paper(0, [], [0]), remark(11, 0, 0, 0)), [-5])

    def test_no_such_edition_or_class(self):
        calls = [ONE, TWO, paper(0, [], [0])]
        for e, c in [(2, 0), (3, 0), (0, 12), (1, 4), (1, 15)]:
            self.assertEqual(last(*calls, remark(0, 0, e, c)), [-7])
            self.assertEqual(marks_of(calls + [remark(0, 0, e, c)], 0, 0), [15])

    def test_no_such_mark(self):
        for count in range(3):
            calls = [ONE, paper(0, [], [0, 0, 0][:count])]
            for i in range(3):
                self.assertEqual(last(*calls, remark(0, i, 0, 0)), [1] if i < count else [-5])

    def test_order(self):
        calls = [ONE, TWO, paper(0, [], [0])]
        self.assertEqual(last(*calls, remark(1, 0, 2, 0)), [-5])
        # -7 is told ahead of the mark that isn't there, and this ahead of nothing in common.
        self.assertEqual(last(*calls, remark(0, 1, 2, 0)), [-7])
        self.assertEqual(last(*calls, remark(0, 1, 1, 4)), [-7])
        self.assertEqual(last(*calls, remark(0, 1, 1, 2)), [-5])
        self.assertEqual(last(remark(0, 0, 0, 0)), [-5])


class Unmark(unittest.TestCase):
    def test_those_behind_move_up(self):
        calls = [ONE, TWO, paper(0, [], [0, 2, 3])]
        for i, left in [(0, [48, 3584]), (1, [15, 3584]), (2, [15, 48])]:
            self.assertEqual(last(*calls, unmark(0, i)), [2])
            self.assertEqual(marks_of(calls + [unmark(0, i)], 0, 0), left)

    def test_down_to_none_and_up_again(self):
        calls = [ONE, TWO, paper(0, [], [0, 2, 3]), unmark(0, 0), unmark(0, 0), unmark(0, 0), unmark(0, 0)]
        more = [mark(0, 1, 1), mark(0, 1, 2), unmark(0, 0), mark(0, 0, 0)]
        self.assertEqual(run(*calls, *more)[3:], [[2], [1], [0], [-5], [0], [1], [1], [1]])
        self.assertEqual(marks_of(calls + more, 0, 0), [48, 1])

    def test_the_paper_that_is_told(self):
        calls = [ONE, paper(0, [], [0]), paper(0, [], [0]), unmark(0, 0)]
        self.assertEqual([marks_of(calls, p, 0) for p in range(2)], [[], [1]])

    def test_out_of_range(self):
        for p, i in [(v, 0) for v in OUTSIDE + [12]] + [(0, v) for v in OUTSIDE + [3]]:
            self.assertEqual(last(unmark(p, i)), [-1])
            calls = [ONE, paper(0, [], [0]), unmark(p, i)]
            self.assertEqual(last(*calls), [-1])
            self.assertEqual(marks_of(calls, 0, 0), [1])

    def test_the_ends_of_the_ranges(self):
        self.assertEqual(last(ONE, *[paper(0, [], [0, 0, 0])] * 12, unmark(11, 2)), [2])

    def test_no_such_paper(self):
        for p in [1, 11]:
            calls = [ONE, paper(0, [], [0]), unmark(p, 0)]
            self.assertEqual(last(*calls), [-5])
            self.assertEqual(marks_of(calls, 0, 0), [1])

    def test_no_such_mark(self):
        for count in range(3):
            for i in range(count, 3):
                calls = [ONE, paper(0, [], [0, 1, 2][:count]), unmark(0, i)]
                self.assertEqual(last(*calls), [-5])
                self.assertEqual(marks_of(calls, 0, 0), [1, 2, 4][:count])


if __name__ == "__main__":
    unittest.main()
