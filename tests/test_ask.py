"""Calls 11 and 12: a query's text, right and not right, and what is kept of it."""

import unittest

from tests.helper import as_bytes, ask, asks, edition, find, GREATEST, last, LEAST, news, paper, ranked, run

SCHEME = edition("A=0,1,2,3;A1<A=0,1;B=4,5;ABC123=6,7;ABC12<ABC123=6;")
OUTSIDE = [-1, LEAST, GREATEST]


def found(text, papers):
    """Of which of the papers (day, words, classes) the query of the text is surely so."""
    answered = last(SCHEME, *[paper(*each) for each in papers], ask(0, 0, text), find(0))
    return answered[1:1 + answered[0]]


def nots(count):
    return "-" * count + "A"


def brackets(count, left):
    """Brackets in brackets, count of them, the inner ones on the left or on the right."""
    text = "A"
    for each in range(count):
        text = "(" + text + "|B)" if left else "(B|" + text + ")"
    return text


class Right(unittest.TestCase):
    def assert_right(self, text, weight):
        with self.subTest(text=text):
            self.assertEqual(run(SCHEME, ask(0, 0, text), asks(0)), [[0, 5], [weight], [0] + as_bytes(text)])

    def test_one_piece(self):
        for text in ["A", "B", "A1", "ABC123", "ABC12", "A!", "A1!", "B!", "ABC123!", "#0", "#5", "<0", ">0", "<9",
                     ">10", "<999", ">999"]:
            self.assert_right(text, 1)

    def test_weights(self):
        for text, weight in [("-A", 2), ("--A", 3), ("(A&B)", 3), ("(A|B)", 3), ("-(A|B)", 4), ("(A|-A)", 4),
                             ("((A&B)|(#0&<5))", 7), ("(-A!&->7)", 5), ("-(-(A|#1)&-<10)", 8), ("(A|(A|(A|A)))", 7),
                             ("(((A|A)|A)|A)", 7)]:
            self.assert_right(text, weight)

    def test_just_10_deep(self):
        self.assert_right(nots(9), 10)
        self.assert_right(brackets(9, True), 19)
        self.assert_right(brackets(9, False), 19)
        self.assert_right("----(" + "B&" + "----#3)", 11)
        self.assert_right("(" + nots(8) + "|" + nots(8) + ")", 19)

    def test_just_60_bytes(self):
        text = "((((A|B)|(A|B))|((A|B)|(A|B)))|((A|<999)|((A|B)|(<99|B))))"
        self.assertEqual(len(text), 58)
        self.assert_right("--" + text, 29)

    def test_the_edition_that_is_told(self):
        calls = [SCHEME, edition("X=0;A=1;"), edition("B=2;")]
        self.assertEqual(run(*calls, ask(0, 1, "X"), ask(1, 0, "A1"), ask(2, 2, "B"), ask(3, 1, "(X|A)"))[3:],
                         [[1], [1], [1], [3]])
        self.assertEqual(run(*calls, ask(0, 0, "X"), ask(0, 1, "A1"), ask(0, 2, "A"), ask(0, 1, "B"))[3:], [[-6]] * 4)

    def test_asks(self):
        calls = [SCHEME, edition("X=0;"), ask(3, 1, "X!"), ask(0, 0, "(A&-#3)"), ask(2, 0, ">17")]
        self.assertEqual(run(*calls, asks(0), asks(1), asks(2), asks(3), asks(0))[5:],
                         [[0] + as_bytes("(A&-#3)"), [-8], [0] + as_bytes(">17"), [1] + as_bytes("X!"),
                          [0] + as_bytes("(A&-#3)")])

    def test_another_query_in_the_place(self):
        self.assertEqual(run(SCHEME, edition("X=0;"), ask(0, 0, "A"), ask(0, 1, "-X"), asks(0))[3:],
                         [[2], [1] + as_bytes("-X")])


class Pieces(unittest.TestCase):
    """What each piece asks for, by the papers that it finds."""

    def test_a_code(self):
        papers = [(0, [], []), (0, [], [0]), (0, [], [1]), (0, [], [2]), (0, [], [2, 1])]
        self.assertEqual(found("A", papers), [1, 2, 4])
        self.assertEqual(found("A1", papers), [2, 4])
        self.assertEqual(found("B", papers), [3, 4])

    def test_a_codes_own_topics_alone(self):
        calls = [SCHEME, edition("X=0;Y=1;Z=2;W=3;V=4;"), *[paper(0, [], [c]) for c in range(5)]]
        self.assertEqual(run(*calls, ask(0, 0, "A!"), find(0), ask(0, 0, "A1!"), find(0), ask(0, 0, "B!"), find(0))[8::2],
                         [[2, 2, 3, 0], [2, 0, 1, 0], [1, 4, 0]])

    def test_no_own_topics(self):
        calls = [edition("A=0,1;B<A=0;C<A=1;"), paper(0, [], []), paper(0, [], [0, 1, 2])]
        self.assertEqual(run(*calls, ask(0, 0, "A!"), find(0), ask(0, 0, "-A!"), find(0))[4::2], [[0, 0], [2, 0, 1, 0]])

    def test_a_word(self):
        papers = [(0, [], [])] + [(0, [w], []) for w in range(6)] + [(0, [0, 1, 2, 3, 4, 5], [])]
        for w in range(6):
            self.assertEqual(found("#%d" % w, papers), [w + 1, 7])

    def test_until_and_since(self):
        papers = [(day, [], []) for day in [0, 1, 499, 500, 501, 998, 999]]
        for text, places in [("<0", [0]), ("<1", [0, 1]), ("<499", [0, 1, 2]), ("<500", [0, 1, 2, 3]),
                             ("<998", [0, 1, 2, 3, 4, 5]), ("<999", [0, 1, 2, 3, 4, 5, 6]), (">999", [6]),
                             (">998", [5, 6]), (">500", [3, 4, 5, 6]), (">501", [4, 5, 6]), (">1", [1, 2, 3, 4, 5, 6]),
                             (">0", [0, 1, 2, 3, 4, 5, 6])]:
            with self.subTest(text=text):
                self.assertEqual(found(text, papers), places)

    def test_not_both_at_least_one(self):
        papers = [(0, [], []), (0, [0], []), (0, [1], []), (0, [0, 1], [])]
        for text, places in [("-#0", [0, 2]), ("--#0", [1, 3]), ("(#0&#1)", [3]), ("(#0|#1)", [1, 2, 3]),
                             ("-(#0&#1)", [0, 1, 2]), ("-(#0|#1)", [0]), ("(-#0&#1)", [2]), ("(#0&-#1)", [1]),
                             ("(-#0|#1)", [0, 2, 3]), ("((#0&-#1)|(-#0&#1))", [1, 2]), ("-((#0&-#1)|-#0)", [3])]:
            with self.subTest(text=text):
                self.assertEqual(found(text, papers), places)

    def test_a_query_goes_on_by_its_edition(self):
        calls = [edition("A=0;B=1;"), paper(0, [], [0]), paper(0, [], [1]), ask(0, 0, "A"), find(0),
                 edition("A=1;B=0;"), find(0), asks(0), ask(1, 1, "A"), find(1), find(0)]
        self.assertEqual(run(*calls)[4:], [[1, 0, 0], [1, 2], [1, 0, 0], [0, 65], [1], [1, 1, 0], [1, 0, 0]])


class NotRight(unittest.TestCase):
    def assert_not_right(self, *texts):
        for text in texts:
            with self.subTest(text=text):
                self.assertLessEqual(len(text), 60)
                self.assertEqual(run(SCHEME, ask(0, 0, text), asks(0)), [[0, 5], [-6], [-8]])

    def test_nothing(self):
        self.assert_not_right("")

    def test_a_code_that_the_edition_hasnt(self):
        self.assert_not_right("C", "A2", "AA", "ABC", "ABC1", "ABC1234", "ABC123A", "A" * 60, "(A&C)", "-C", "C!", "A0")

    def test_small_letters(self):
        self.assert_not_right("a", "Aa", "aA", "a1", "abc123", "(a&b)", "-a", "a!")

    def test_a_code_that_begins_with_a_digit(self):
        self.assert_not_right("1A", "1", "0", "9B", "(1&A)")

    def test_the_sign_of_own_topics(self):
        self.assert_not_right("!", "!A", "A!!", "A!1", "A!A", "#1!", "<5!", ">5!", "(A&B)!", "(A!&!)", "-!")

    def test_words(self):
        self.assert_not_right("#", "#6", "#9", "#10", "#55", "#00", "#01", "#05", "#-1", "#A", "##1", "#1#", "(#&A)",
                              "#" + "1" * 59, "# 1", "1#")

    def test_days(self):
        for sign in "<>":
            self.assert_not_right(sign, sign + "1000", sign + "00", sign + "01", sign + "0999", sign + "-1",
                                  sign + "A", sign + sign + "1", sign + "=1", sign + "9999", sign + "1" * 59,
                                  "A" + sign + "1", sign + "5A", sign + "1.0", sign + " 1", sign + "1 ",
                                  "(" + sign + "&A)", sign + "+1", "1" + sign)

    def test_missing_brackets(self):
        self.assert_not_right("(A&B", "A&B)", "(A&(B|A)", "((A&B)", "(A", "A)", "(", ")", "A&B", "A|B", "((A&B)|A",
                              "-(A&B", "(A&B))", "((A&B)")

    def test_brackets_without_two_queries(self):
        self.assert_not_right("()", "(A)", "(&)", "(A&)", "(&A)", "(|A)", "(A|)", "((A)&B)", "(A&(B))", "(A&B&A)",
                              "(A|B|A)", "(A&B|A)", "(A&&B)", "(A||B)", "(A&|B)", "(AB)", "(A-B)", "(A&B|)", "((A&B))")

    def test_something_behind_the_query(self):
        self.assert_not_right("AB1", "A-", "A-A", "A#1", "#1A", "A(", "A(A&B)", "(A&B)A", "(A&B)(A&B)", "(A&B)-", "A&",
                              "A|", "-A-", "A ", "A\n", "A,", "A;", "(A&B);", "#1#2", "<1>2", "<1<2", "A!B", "A<5")

    def test_not_without_a_query(self):
        self.assert_not_right("-", "--", "-)", "-&", "(A&-)", "(-&A)", "-" * 60)

    def test_other_signs(self):
        for sign in [0, 9, 10, 32, 34, 37, 42, 43, 44, 46, 47, 58, 59, 61, 63, 64, 91, 95, 96, 123, 125, 126, 127, 128,
                     193, 255]:
            self.assert_not_right([sign], [65, sign], [sign, 65], [40, 65, sign, 66, 41], [40, 65, 38, sign, 66, 41])

    def test_more_than_10_deep(self):
        self.assert_not_right(nots(10), nots(11), nots(59), brackets(10, True), brackets(10, False),
                              "(" + nots(9) + "|B)", "(B|" + nots(9) + ")", "-----(B&-----#3)", "(" * 60,
                              "-" * 10 + "(A&B)", "-" * 9 + "(A&B)")


class Refused(unittest.TestCase):
    def test_out_of_range(self):
        calls = [SCHEME]
        for value in OUTSIDE + [4]:
            for k, e in [(value, 0), (0, value)]:
                self.assertEqual(last(*calls, ask(k, e, "A")), [-1])
                self.assertEqual(last(ask(k, e, "A")), [-1])

    def test_the_ends_of_the_ranges(self):
        self.assertEqual(run(*[SCHEME] * 4, ask(3, 3, "A"), ask(0, 0, "A"), asks(3), asks(0))[4:],
                         [[1], [1], [3, 65], [0, 65]])

    def test_bytes_that_arent_from_0_to_255(self):
        for value in OUTSIDE + [256, 256 + 65, -191]:
            for text in [[value], [65, value], [value, 65], [40, 65, 38, value, 41], [65] * 59 + [value]]:
                self.assertEqual(run(SCHEME, ask(0, 0, text), asks(0))[1:], [[-1], [-8]])

    def test_a_text_that_is_too_long(self):
        text = "-((((A|B)|(A|B))|((A|B)|(A|B)))|((A|<999)|((A|B)|(<999|B))))"
        self.assertEqual(len(text), 60)
        self.assertEqual(last(SCHEME, ask(0, 0, text)), [28])
        # A right query but for its 61 bytes.
        for longer in ["-" + text, [65] * 61, [65] * 400]:
            with self.subTest(longer=longer):
                self.assertEqual(run(SCHEME, ask(0, 0, longer), asks(0))[1:], [[-1], [-8]])

    def test_no_such_edition(self):
        for e in [1, 2, 3]:
            self.assertEqual(run(SCHEME, ask(0, e, "A"), asks(0))[1:], [[-7], [-8]])
        self.assertEqual(last(ask(0, 0, "A")), [-7])

    def test_order(self):
        self.assertEqual(last(ask(4, 0, "?")), [-1])
        self.assertEqual(last(SCHEME, ask(0, 1, [65] * 61)), [-1])
        self.assertEqual(last(SCHEME, ask(0, 1, [256])), [-1])
        self.assertEqual(last(SCHEME, ask(0, 0, [65, 256, 63])), [-1])
        self.assertEqual(last(SCHEME, ask(0, 1, "?")), [-7])
        self.assertEqual(last(SCHEME, ask(0, 1, "")), [-7])
        self.assertEqual(last(SCHEME, ask(0, 0, "?")), [-6])

    def test_nothing_changes(self):
        calls = [SCHEME, paper(0, [0], [0]), paper(0, [], [0]), ask(2, 0, "#0"), news(2)]
        for refused, number in [(ask(2, 0, "?"), -6), (ask(2, 0, ""), -6), (ask(2, 1, "A"), -7), (ask(2, 4, "A"), -1),
                                (ask(2, 0, [256]), -1), (ask(2, 0, [65] * 61), -1)]:
            with self.subTest(refused=refused):
                self.assertEqual(run(*calls, refused, asks(2), find(2), ranked(2), news(2), asks(0))[4:],
                                 [[1, 0], [number], [0, 35, 48], [1, 0, 0], [1, 0, 1, 1], [0], [-8]])

    def test_asks(self):
        for k in OUTSIDE + [4]:
            self.assertEqual(last(asks(k)), [-1])
            self.assertEqual(last(SCHEME, ask(0, 0, "A"), asks(k)), [-1])
        for k in range(4):
            self.assertEqual(last(asks(k)), [-8])
            for other in range(4):
                self.assertEqual(last(SCHEME, ask(k, 0, "A"), asks(other)), [0, 65] if k == other else [-8])


if __name__ == "__main__":
    unittest.main()
