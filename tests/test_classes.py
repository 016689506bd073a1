"""Calls 1 to 5: what is told of editions and their classes."""

import unittest

from tests.helper import (as_bytes, class_, concord, edition, GREATEST, holder, last, LEAST, run, sum_of, text,
                          through)

OLD = edition("A=0,1,2,3;A1<A=0,1;B=4,5;")
NEW = edition("C=0,4;D=1,2,3,5;")
DEEP = edition("A=0,1,2,3,4;B<A=0,1,2;C<B=0;D<A=3;E=7;")
FULL = edition("".join("%s=%d;" % (chr(65 + t), t) for t in range(12)) + "A1<A=0;A2<A1=0;A3<A2=0;A4<A3=0;")
OUTSIDE = [-1, LEAST, GREATEST]


class Refusals:
    """For one call: call(numbers); good: numbers in range; most: the greatest of each."""

    def test_out_of_range(self):
        four = [FULL] * 4
        for place, most in enumerate(self.most):
            for value in OUTSIDE + [most + 1]:
                numbers = list(self.good)
                numbers[place] = value
                with self.subTest(numbers=numbers):
                    self.assertEqual(last(*four, self.call(*numbers)), [-1])
                    # Ahead of -7, which holds where there are no editions.
                    self.assertEqual(last(self.call(*numbers)), [-1])

    def test_the_ends_of_the_ranges(self):
        four = [FULL] * 4
        self.assertNotIn(last(*four, self.call(*self.most)), [[-1], [-7]])
        self.assertNotIn(last(*four, self.call(*[0] * len(self.most))), [[-1], [-7]])

    def test_no_such_edition(self):
        self.assertEqual(last(self.call(*self.good)), [-7])
        for place, most in enumerate(self.most):
            if most == 3:
                for there in range(4):
                    numbers = [0] * len(self.most)
                    numbers[place] = there
                    before = [FULL] * there
                    with self.subTest(numbers=numbers):
                        self.assertEqual(last(*before, self.call(*numbers)), [-7])
                        self.assertNotEqual(last(*before, FULL, self.call(*numbers)), [-7])

    def test_no_such_class(self):
        for place, most in enumerate(self.most):
            if most == 15:
                numbers = [0] * len(self.most)
                for c in range(2, 16):
                    numbers[place] = c
                    with self.subTest(numbers=numbers):
                        self.assertEqual(last(NEW, FULL, self.call(*numbers)), [-7])
                numbers[place] = 1
                self.assertNotEqual(last(NEW, FULL, self.call(*numbers)), [-7])

    def test_nothing_changes(self):
        numbers = [0] * len(self.most)
        numbers[0] = 2
        calls = [OLD, NEW, text(0), text(1), class_(0, 0), DEEP]
        refused = run(*calls[:2], self.call(*numbers), *calls[2:])
        self.assertEqual(refused, run(*calls[:2]) + [[-7]] + run(*calls)[2:])


class Text(Refusals, unittest.TestCase):
    call = staticmethod(text)
    good = [0]
    most = [3]

    def test_bytes_alone(self):
        self.assertEqual(run(OLD, NEW, text(1), text(0))[2:],
                         [as_bytes("C=0,4;D=1,2,3,5;"), as_bytes("A=0,1,2,3;A1<A=0,1;B=4,5;")])

    def test_telling_changes_nothing(self):
        self.assertEqual(run(OLD, text(0), text(0), class_(0, 1), text(0))[4], as_bytes("A=0,1,2,3;A1<A=0,1;B=4,5;"))


class Class(Refusals, unittest.TestCase):
    call = staticmethod(class_)
    good = [0, 0]
    most = [3, 15]

    def test_over_topics_own_code(self):
        self.assertEqual(run(OLD, class_(0, 0), class_(0, 1), class_(0, 2))[1:],
                         [[0, 15, 12, 65], [1, 3, 3, 65, 49], [0, 48, 48, 66]])

    def test_own_is_without_those_of_classes_under_it(self):
        self.assertEqual(run(DEEP, *[class_(0, c) for c in range(5)])[1:], [
            [0, 31, sum_of([4]), 65],
            [1, 7, sum_of([1, 2]), 66],
            [2, 1, 1, 67],
            [1, 8, 8, 68],
            [0, 128, 128, 69],
        ])

    def test_no_own_topic(self):
        self.assertEqual(run(edition("A=0,1;B<A=0;C<A=1;D<C=1;"), class_(0, 0), class_(0, 2), class_(0, 3))[1:],
                         [[0, 3, 0, 65], [1, 2, 0, 67], [3, 2, 2, 68]])

    def test_each_edition_by_itself(self):
        self.assertEqual(run(OLD, NEW, class_(1, 0), class_(1, 1))[2:],
                         [[0, 17, 17, 67], [0, sum_of([1, 2, 3, 5]), sum_of([1, 2, 3, 5]), 68]])

    def test_telling_a_code_changes_nothing(self):
        self.assertEqual(run(OLD, class_(0, 1), class_(0, 1))[1:], [[1, 3, 3, 65, 49]] * 2)

    def test_sixteenth(self):
        self.assertEqual(last(FULL, class_(0, 15)), [15, 1, 1, 65, 52])


class Concord(Refusals, unittest.TestCase):
    call = staticmethod(concord)
    good = [0, 0, 0]
    most = [3, 15, 3]

    def test_classes_that_meet(self):
        self.assertEqual(run(OLD, NEW, concord(0, 0, 1), concord(0, 1, 1), concord(0, 2, 1))[2:],
                         [[2, 0, 1, 0], [2, 0, 1, 0], [2, 0, 1, 0]])
        self.assertEqual(run(OLD, NEW, concord(1, 0, 0), concord(1, 1, 0))[2:], [[2, 1, 2, 0], [3, 0, 1, 2, 0]])

    def test_own_topics_alone_count(self):
        self.assertEqual(last(edition("X=0;"), DEEP, concord(0, 0, 1)), [1, 2, 0])
        self.assertEqual(last(edition("X=4;"), DEEP, concord(0, 0, 1)), [1, 0, 0])

    def test_of_c_all_topics_count(self):
        self.assertEqual(last(DEEP, edition("X=0;Y=4;"), concord(0, 0, 1)), [2, 0, 1, sum_of([1, 2, 3])])

    def test_topics_of_no_class(self):
        self.assertEqual(last(edition("X=5,6,11;"), DEEP, concord(0, 0, 1)), [0, sum_of([5, 6, 11])])
        self.assertEqual(last(edition("X=4,7,8;"), DEEP, concord(0, 0, 1)), [2, 0, 4, sum_of([8])])

    def test_a_topic_that_no_class_has_as_its_own_at_the_top_is_had(self):
        told = edition("A=0,1;B<A=0,1;C=2;")
        self.assertEqual(last(edition("X=0,1,2,3;"), told, concord(0, 0, 1)), [2, 1, 2, 8])

    def test_an_edition_with_itself(self):
        self.assertEqual(run(DEEP, *[concord(0, c, 0) for c in range(5)])[1:],
                         [[4, 0, 1, 2, 3, 0], [2, 1, 2, 0], [1, 2, 0], [1, 3, 0], [1, 4, 0]])

    def test_the_order_of_the_arguments(self):
        self.assertEqual(run(edition("A=0;"), edition("B=1;C=0;"), concord(1, 1, 0), concord(0, 1, 1))[2:],
                         [[1, 0, 0], [-7]])


class Through(Refusals, unittest.TestCase):
    call = staticmethod(through)
    good = [0, 0, 0, 0]
    most = [3, 3, 3, 15]

    def test_more_is_reached_than_straight(self):
        calls = [edition("A=0;B=1;"), edition("C=0,1,2;"), edition("D=0;E=1;F=2,3;G=4;")]
        self.assertEqual(run(*calls, through(0, 1, 2, 0), through(0, 1, 2, 1))[3:],
                         [[3, 0, 1, 2, 2, 1, 2], [3, 0, 1, 2, 2, 0, 2]])

    def test_less_is_reached_than_straight(self):
        calls = [edition("A=0,1;"), edition("C=1,2;"), edition("D=0;E=1;F=2;")]
        self.assertEqual(last(*calls, through(0, 1, 2, 0)), [2, 1, 2, 1, 2])

    def test_nothing_between(self):
        calls = [edition("A=0;"), edition("C=1;"), edition("D=0;")]
        self.assertEqual(last(*calls, through(0, 1, 2, 0)), [0, 0])

    def test_nothing_behind(self):
        calls = [edition("A=0;"), edition("C=0;"), edition("D=1;")]
        self.assertEqual(last(*calls, through(0, 1, 2, 0)), [0, 0])

    def test_own_topics_alone_go_through(self):
        # Class C has topic 0, but only C1 has it as its own: topics 1 and 2 aren't carried.
        calls = [edition("A=0;"), edition("C=0,1,2;C1<C=0;"), edition("D=0;E=1;F=2;")]
        self.assertEqual(last(*calls, through(0, 1, 2, 0)), [1, 0, 0])

    def test_own_topics_alone_are_reached(self):
        calls = [edition("A=0;"), edition("C=0,1;"), edition("D=0,1,2;E<D=1;F<E=1;")]
        self.assertEqual(last(*calls, through(0, 1, 2, 0)), [2, 0, 2, 1, 2])

    def test_the_order_of_the_arguments(self):
        calls = [edition("A=0;B=1;"), edition("C=0,2;"), edition("D=2;E=0;")]
        self.assertEqual(run(*calls, through(0, 1, 2, 0), through(0, 2, 1, 0), through(1, 0, 2, 0))[3:],
                         [[2, 0, 1, 1, 0], [1, 0, 0], [1, 1, 0]])

    def test_all_one_edition(self):
        self.assertEqual(last(DEEP, through(0, 0, 0, 1)), [2, 1, 2, 0])


class Holder(Refusals, unittest.TestCase):
    call = staticmethod(holder)
    good = [0, 0, 0]
    most = [3, 15, 3]

    def test_just_those_topics(self):
        self.assertEqual(last(edition("X=0,1,2;"), DEEP, holder(0, 0, 1)), [1, 1, 1])

    def test_the_fewest(self):
        self.assertEqual(last(edition("X=0,1;"), DEEP, holder(0, 0, 1)), [1, 1, 0])
        self.assertEqual(last(edition("X=0,3;"), DEEP, holder(0, 0, 1)), [1, 0, 0])
        self.assertEqual(last(edition("X=0;"), DEEP, holder(0, 0, 1)), [1, 2, 1])

    def test_none(self):
        self.assertEqual(last(edition("X=0,7;"), DEEP, holder(0, 0, 1)), [0])
        self.assertEqual(last(edition("X=11;"), DEEP, holder(0, 0, 1)), [0])

    def test_of_several_the_last(self):
        same = edition("A=0,1,2;B<A=0,1,2;C<B=0,1,2;D<C=0;")
        self.assertEqual(last(edition("X=0,1,2;"), same, holder(0, 0, 1)), [1, 2, 1])
        self.assertEqual(last(edition("X=0,1;"), same, holder(0, 0, 1)), [1, 2, 0])
        self.assertEqual(last(edition("X=0;"), same, holder(0, 0, 1)), [1, 3, 1])

    def test_fewest_by_count_not_by_number(self):
        told = edition("A=0,1,2,10,11;B<A=0,10,11;C<B=0,11;D<A=1;")
        self.assertEqual(last(edition("X=0;"), told, holder(0, 0, 1)), [1, 2, 0])

    def test_all_topics_count_not_the_own_ones_alone(self):
        self.assertEqual(last(edition("X=3,4;"), DEEP, holder(0, 0, 1)), [1, 0, 0])
        self.assertEqual(last(DEEP, edition("X=4;Y=0,1,2,3;"), holder(0, 0, 1)), [0])

    def test_itself(self):
        self.assertEqual(run(DEEP, *[holder(0, c, 0) for c in range(5)])[1:], [[1, c, 1] for c in range(5)])

    def test_the_order_of_the_arguments(self):
        self.assertEqual(run(edition("A=0;"), edition("B=1;C=0,2;"), holder(0, 0, 1), holder(1, 1, 0))[2:],
                         [[1, 1, 0], [0]])


if __name__ == "__main__":
    unittest.main()
