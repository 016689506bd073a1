"""Call 0: an edition's text, right and not right."""

import unittest

from tests.helper import as_bytes, class_, edition, GREATEST, last, LEAST, run, text

ALL = "0,1,2,3,4,5,6,7,8,9,10,11"


def chain(sizes):
    """Sentences of sizes bytes each, all under one another."""
    told = []
    over = ""
    for place, size in enumerate(sizes):
        code = "C%05d" % place
        told.append(code + over + "=" + ALL[:size - len(code + over) - 2] + ";")
        assert len(told[-1]) == size, (size, told[-1])
        over = "<" + code
    return "".join(told)


class Right(unittest.TestCase):
    def assert_right(self, told, classes):
        self.assertEqual(run(edition(told), text(0)), [[0, classes], as_bytes(told)])

    def test_one_class(self):
        self.assert_right("A=0;", 1)

    def test_all_topics(self):
        self.assert_right("A=" + ALL + ";", 1)
        self.assertEqual(last(edition("A=" + ALL + ";"), class_(0, 0)), [0, 4095, 4095, 65])

    def test_each_topic(self):
        for topic in range(12):
            self.assertEqual(last(edition("A=%d;" % topic), class_(0, 0)), [0, 2 ** topic, 2 ** topic, 65])

    def test_codes(self):
        for code in ["A", "Z", "A0", "Z9", "AZ", "A09ZAZ", "ABCDEF", "B12345"]:
            told = code + "=3;"
            self.assert_right(told, 1)
            self.assertEqual(last(edition(told), class_(0, 0)), [0, 8, 8] + as_bytes(code))

    def test_a_code_may_begin_another(self):
        self.assert_right("A=0;AA=1;AAA=2;", 3)

    def test_sixteen_classes(self):
        told = "".join("%s=%d;" % (chr(65 + t), t) for t in range(12)) + "A1<A=0;A2<A1=0;A3<A2=0;A4<A3=0;"
        self.assert_right(told, 16)

    def test_over_over(self):
        self.assert_right("A=0,1,2;B<A=0,1;C<B=1;D<B=0;E<A=2;", 5)

    def test_over_needs_not_be_just_before(self):
        self.assert_right("A=0,1;B=2;C<A=0;D<B=2;", 4)

    def test_a_topic_of_a_class_with_another_over(self):
        self.assert_right("A=0,1;B<A=0,1;C<B=0;", 3)
        self.assert_right("A=0,1;B=2,3;C<A=0;D<C=0;E<B=3;", 5)

    def test_topics_beside_one_another_without_over(self):
        self.assert_right("A=0,11;B=1,10;", 2)

    def test_just_400_bytes(self):
        told = chain([33] + [40] * 7 + [37, 34, 16])
        self.assertEqual(len(told), 400)
        self.assert_right(told, 11)

    def test_numbers_go_up(self):
        self.assertEqual(
            run(edition("A=0;"), edition("B=1;C=2;"), edition("D=1;"), edition("E=1;F=2;G=3;")),
            [[0, 1], [1, 2], [2, 1], [3, 3]],
        )

    def test_editions_stand_by_themselves(self):
        self.assertEqual(run(edition("A=0;"), edition("A=0;")), [[0, 1], [1, 1]])
        self.assertEqual(run(edition("A=0;"), edition("B<A=0;")), [[0, 1], [-6]])


class NotRight(unittest.TestCase):
    def assert_not_right(self, *texts):
        for told in texts:
            with self.subTest(told=told):
                # The edition behind it is number 0: nothing was added.
                self.assertEqual(run(edition(told), text(0), edition("A=0;")), [[-6], [-7], [0, 1]])

    def test_no_class(self):
        self.assert_not_right("")

    def test_empty_sentences(self):
        self.assert_not_right(";", ";;", "A=0;;", ";A=0;", "A=0;;B=1;")

    def test_missing_semicolon(self):
        self.assert_not_right("A=0", "A=0;B=1", "A", "A=0;B", "A=0B=1;", "A=0,B=1;")

    def test_zero_in_front(self):
        self.assert_not_right("A=00;", "A=01;", "A=0,01;", "A=0,010;", "A=011;", "A=000;")

    def test_topics_that_dont_go_up(self):
        self.assert_not_right("A=1,0;", "A=0,2,1;", "A=10,9;", "A=11,10;", "A=1,2,0;")

    def test_a_topic_twice(self):
        self.assert_not_right("A=0,0;", "A=0,1,1;", "A=11,11;", "A=0,0,1;")

    def test_a_topic_beyond_11(self):
        self.assert_not_right("A=12;", "A=0,12;", "A=99;", "A=100;", "A=4294967296;", "A=" + "1" * 300 + ";")

    def test_no_topic(self):
        self.assert_not_right("A=;", "A=,;", "A=0,;", "A=,0;", "A=0,,1;", "A;", "A<;", "B=0;A<B=;", "B=0;A<B;")

    def test_signs_in_topics(self):
        self.assert_not_right("A=-1;", "A=+1;", "A=1 ;", "A= 1;", "A=0-1;", "A=0.1;", "A=A;", "A=0/;", "A=0:;", "A=:;", "A=/;")

    def test_code_too_long(self):
        self.assert_not_right("ABCDEFG=0;", "A123456=0;", "A=0;BCDEFGH<A=0;", "ABCDEF=0;B<ABCDEFG=0;")

    def test_code_beginning_with_a_digit(self):
        self.assert_not_right("1=0;", "1A=0;", "0ABC=0;", "9=0;", "A=0;1<A=0;", "A=0;9B<A=0;")

    def test_small_letters(self):
        self.assert_not_right("a=0;", "Aa=0;", "aA=0;", "AbC=0;", "z=0;", "A=0;b<A=0;", "A=0;B<a=0;")

    def test_other_signs_in_codes(self):
        for sign in "@[/:` -_!#&|(),>":
            self.assert_not_right(sign + "=0;", "A" + sign + "=0;", sign + "A=0;")

    def test_no_code(self):
        self.assert_not_right("=0;", "<=0;", "A=0;<A=0;", "A=0;B<=0;", "0;")

    def test_signs_too_many(self):
        self.assert_not_right("A==0;", "A=0=;", "A=0=1;", "A=0;B<<A=0;", "A=0;B<A<A=0;", "A=0;B<A=0=0;", "A=0<A;")
        self.assert_not_right("A=0;B<A<A=1;", "A=0;B=1;C<A<B=2;", "A=0;B=1;C<A<B=1;", "A=0,1;B<A=0;C<B<A=1;")

    def test_nothing_between_or_behind(self):
        self.assert_not_right("A=0; B=1;", "A=0;\n", "A=0; ", " A=0;", "A=0;B=1;\n", "A =0;", "A=0;B< A=0;")
        self.assert_not_right([65, 61, 48, 59, 0], [0], [255], [65, 61, 48, 59, 255], [128 + 65, 61, 48, 59])

    def test_more_than_sixteen_classes(self):
        told = "".join("%s=%d;" % (chr(65 + t), t) for t in range(12)) + "A1<A=0;A2<A1=0;A3<A2=0;A4<A3=0;"
        self.assert_not_right(told + "A5<A4=0;", told + "A5<A4=0;A6<A5=0;")

    def test_a_code_twice(self):
        self.assert_not_right("A=0;A=1;", "A=0,1;B<A=0;B<A=1;", "A=0;B=1;A<B=1;", "A=0;A<A=0;", "A=0;B<A=0;B<B=0;")

    def test_an_over_that_no_sentence_before_has(self):
        self.assert_not_right("A<B=0;", "A<A=0;", "B<A=0;A=0,1;", "A=0;B<C=0;", "AB=0;B<A=0;", "A=0;B<AB=0;")

    def test_a_topic_that_the_class_over_hasnt(self):
        self.assert_not_right("A=0;B<A=1;", "A=0,2;B<A=0,1;", "A=0,1;B<A=0;C<B=1;", "A=0;B=1;C<A=1;", "A=0;B<A=0,1;")

    def test_a_topic_of_another_class_with_the_same_over(self):
        self.assert_not_right("A=0,1,2;B<A=0,1;C<A=1,2;", "A=0,1;B<A=0;C<A=0;", "A=0,1;B<A=0;C<A=1;D<A=1;")
        self.assert_not_right("A=0,1,2;B<A=0,1;C<B=0;D<B=0;")

    def test_a_topic_of_another_class_without_over(self):
        self.assert_not_right("A=0;B=0;", "A=0,1;B=1,2;", "A=0;B=1;C=0;", "A=0,1;B<A=0;C=1;", "A=0,1;B<A=0;C=0;")

    def test_400_bytes(self):
        self.assert_not_right([59] * 400, [65] * 400, "A=0;" * 100, [48] * 400, [44] * 400, [61] * 400, [60] * 400)


class Refused(unittest.TestCase):
    def test_bytes_out_of_range(self):
        for value in [-1, 256, 257, 256 + 65, LEAST, GREATEST]:
            for told in [[value], [value, 61, 48, 59], [65, 61, 48, 59, value], [65, value, 48, 59]]:
                with self.subTest(told=told):
                    self.assertEqual(run(edition(told), edition("A=0;")), [[-1], [0, 1]])

    def test_bytes_out_of_range_at_the_end_of_400(self):
        for value in [-1, 256]:
            self.assertEqual(run(edition([65] * 399 + [value]), edition("A=0;")), [[-1], [0, 1]])

    def test_a_text_that_is_too_long(self):
        told = chain([33] + [40] * 7 + [37, 34, 16])
        self.assertEqual(run(edition(told + ";"), edition("A=0;")), [[-1], [0, 1]])

    def test_four_editions(self):
        four = [edition(told) for told in ["A=0;", "B=1;", "C=2;", "D=3;"]]
        self.assertEqual(
            run(*four, edition("E=4;"), edition("E=4;"), text(3), text(0)),
            [[0, 1], [1, 1], [2, 1], [3, 1], [-3], [-3], as_bytes("D=3;"), as_bytes("A=0;")],
        )

    def test_order(self):
        four = [edition(told) for told in ["A=0;", "B=1;", "C=2;", "D=3;"]]
        self.assertEqual(last(*four, edition("E")), [-3])
        self.assertEqual(last(*four, edition([256])), [-1])
        self.assertEqual(last(edition([69, -1])), [-1])


if __name__ == "__main__":
    unittest.main()
