"""Call 16: whether two queries ask the same, and the paper by which they differ."""

import random
import unittest

from tests.helper import ask, asks, edition, find, GREATEST, last, LEAST, news, paper, run, same, SINGLES

ONE = edition(SINGLES)
TWO = edition("P=0,1,2;Q<P=0,1;R<Q=0;S<Q=1;T<P=2;")
NEVER = "-<999"
ALWAYS = "<999"


def compare(first, second):
    """What same answers of the two texts, which are (text, edition) or read by the edition ONE."""
    asked = [each if isinstance(each, tuple) else (each, 0) for each in (first, second)]
    return last(ONE, TWO, ask(0, asked[0][1], asked[0][0]), ask(3, asked[1][1], asked[1][0]), same(0, 3))


class Same(unittest.TestCase):
    def assert_same(self, first, second):
        with self.subTest(first=first, second=second):
            self.assertEqual(compare(first, second), [1])
            self.assertEqual(compare(second, first), [1])

    def assert_differ(self, first, second, day, words, topics):
        with self.subTest(first=first, second=second):
            answered = [0, day, len(words)] + words + [len(topics)] + topics
            self.assertEqual(compare(first, second), answered)
            self.assertEqual(compare(second, first), answered)

    def test_the_same_text(self):
        for text in ["A", "A!", "#3", "<5", ">0", "-A", "(A&B)", "((A|#1)&-<7)"]:
            self.assert_same(text, text)

    def test_a_place_with_itself(self):
        self.assertEqual(run(ONE, ask(2, 0, "((A|#1)&-<7)"), same(2, 2))[2:], [[1]])

    def test_other_texts_that_ask_the_same(self):
        for first, second in [
            ("A", "--A"), ("(A&B)", "(B&A)"), ("-(A|B)", "(-A&-B)"), ("-(A&#1)", "(-A|-#1)"), ("A", "A!"),
            ("(A&(B|C))", "((A&B)|(A&C))"), ("(A|(A&B))", "A"), ("(A|-A)", ALWAYS), ("(#5&-#5)", NEVER),
            ("<5", "->6"), (">6", "-<5"), (">0", "<999"), ("(<5&<7)", "<5"), ("(>5|>7)", ">5"), ("(<5&>6)", NEVER),
            ("(<5|>6)", ALWAYS), ("((A&<5)|(A&>6))", "A"), ("(#0|#1)", "-(-#0&-#1)"), ("(<0|>1)", ALWAYS),
            ("->999", "<998"), ("-<0", ">1"),
        ]:
            self.assert_same(first, second)

    def test_other_editions(self):
        self.assert_same(("R", 1), ("A", 0))
        self.assert_same(("Q", 1), ("(A|B)", 0))
        self.assert_same(("P", 1), ("((A|B)|C)", 0))
        self.assert_same(("(R|S)", 1), ("Q", 1))
        self.assert_same(("T", 1), ("C!", 0))
        self.assert_same(("P!", 1), (NEVER, 0))
        self.assert_same(("Q!", 1), ("P!", 1))
        self.assert_differ(("P", 1), ("(A|B)", 0), 0, [], [2])
        self.assert_differ(("P", 1), ("P!", 1), 0, [], [0])

    def test_by_until_alone(self):
        for first, second, day in [("<5", "<7", 6), ("<0", "<1", 1), ("<0", "<999", 1), ("<998", "<999", 999),
                                   ("<999", NEVER, 0), ("<0", NEVER, 0), ("<500", "-<500", 0), ("<8", "(<8|-<9)", 10),
                                   ("(<3|(-<4&<9))", "<9", 4)]:
            self.assert_differ(first, second, day, [], [])

    def test_by_since_alone(self):
        for first, second, day in [(">5", ">7", 5), (">0", ">1", 0), (">999", NEVER, 999), (">998", ">999", 998),
                                   (">999", ">0", 0), (">0", NEVER, 0), (">500", "->500", 0), (">1", NEVER, 1),
                                   ("(>3&->6)", NEVER, 3)]:
            self.assert_differ(first, second, day, [], [])

    def test_by_until_and_since(self):
        for first, second, day in [("<500", "->500", 500), ("<0", ">0", 1), ("<5", "->5", 5), ("(<5&>5)", NEVER, 5),
                                   ("(<999&>999)", NEVER, 999), ("(<0&>0)", NEVER, 0), (">6", "-<6", 6),
                                   ("(<5|>7)", ALWAYS, 6)]:
            self.assert_differ(first, second, day, [], [])

    def test_by_words_alone(self):
        for first, second, words in [("#3", "#5", [3]), ("#0", NEVER, [0]), ("#5", NEVER, [5]), ("#4", "-#4", []),
                                     ("(#0&#5)", "#5", [5]), ("(#1&#2)", "(#1&#4)", [1, 2]), ("(#3|#4)", "#4", [3]),
                                     ("((#0&#1)&#2)", "((#0&#1)&#3)", [0, 1, 2]), ("(#4&#5)", NEVER, [4, 5]),
                                     ("(((#0&#1)&(#2&#3))&(#4&#5))", NEVER, [0, 1, 2, 3, 4, 5])]:
            self.assert_differ(first, second, 0, words, [])

    def test_words_by_their_number(self):
        # 3 is less than 4, 24 less than 32, though one word is less than two.
        self.assert_differ("((#0&#1)|#2)", NEVER, 0, [0, 1], [])
        self.assert_differ("(#5|(#3&#4))", NEVER, 0, [3, 4], [])
        self.assert_differ("((#0&#5)|(#3&#4))", NEVER, 0, [3, 4], [])

    def test_by_one_topic(self):
        for first, second, topics in [("A", "B", [0]), ("K", "L", [10]), ("L", NEVER, [11]), ("(K&L)", "K", [10]),
                                      ("(C|D)", "C", [3])]:
            self.assert_differ(first, second, 0, [], topics)

    def test_by_no_topic(self):
        self.assert_differ("A", "-A", 0, [], [])
        self.assert_differ("-L", NEVER, 0, [], [])

    def test_by_two_topics(self):
        for first, second, topics in [("(A&B)", NEVER, [0, 1]), ("(K&L)", NEVER, [10, 11]), ("(A&L)", "(A&K)", [0, 10]),
                                      ("((A&L)|(B&C))", NEVER, [0, 11]), ("(C&(J|K))", NEVER, [2, 9]),
                                      ("((A|B)&(K|C))", NEVER, [0, 2])]:
            self.assert_differ(first, second, 0, [], topics)

    def test_by_three_topics(self):
        for first, second, topics in [("((A&B)&C)", NEVER, [0, 1, 2]), ("((A&C)&L)", "((A&C)&K)", [0, 2, 10]),
                                      ("((J&K)&L)", NEVER, [9, 10, 11]), ("(((A&K)&L)|((B&C)&D))", NEVER, [0, 10, 11]),
                                      ("((C&J)&(K|E))", NEVER, [2, 4, 9])]:
            self.assert_differ(first, second, 0, [], topics)

    def test_fewer_topics_ahead_of_the_order_of_lists(self):
        self.assert_differ("((A&B)|L)", NEVER, 0, [], [11])
        self.assert_differ("(((A&B)&C)|(K&L))", NEVER, 0, [], [10, 11])

    def test_more_than_three_topics_are_not_to_be_had(self):
        self.assert_same("((A&B)&(C&D))", NEVER)
        self.assert_same("(((A&B)&(C&D))|E)", "E")
        self.assert_differ("((A&B)&(C|D))", NEVER, 0, [], [0, 1, 2])

    def test_by_several_together(self):
        self.assert_differ("((A&#1)&>5)", NEVER, 5, [1], [0])
        self.assert_differ("(((A&L)&(#1&#3))&>999)", NEVER, 999, [1, 3], [0, 11])
        self.assert_differ("((((C&E)&G)&(#0&#5))&-<41)", NEVER, 42, [0, 5], [2, 4, 6])

    def test_the_day_ahead_of_the_words(self):
        self.assert_differ("((#5&<0)|>1)", NEVER, 0, [5], [])

    def test_the_day_ahead_of_the_topics(self):
        self.assert_differ("((((K&L)&J)&>3)|>4)", NEVER, 3, [], [9, 10, 11])

    def test_the_words_ahead_of_the_topics(self):
        self.assert_differ("((#0|(K&L))&>3)", NEVER, 3, [], [10, 11])
        self.assert_differ("(((K&L)&#0)|#1)", NEVER, 0, [0], [10, 11])

    def test_words_of_the_other_query_count_too(self):
        self.assert_differ("(A&-#0)", "(A&-(#0&#1))", 0, [0], [0])
        self.assert_differ("#2", "(#2&-#5)", 0, [2, 5], [])

    def test_days_against_every_day(self):
        source = random.Random(16)
        for count in range(150):
            texts = [days_alone(source, 3) for each in range(2)]
            first, second = [by_days(text) for text in texts]
            apart = [day for day in range(1000) if first(day) != second(day)]
            with self.subTest(texts=texts):
                self.assertEqual(compare(*texts), [0, apart[0], 0, 0] if apart else [1])


def days_alone(source, deep):
    """A query of days alone."""
    if deep == 0 or source.random() < 0.2:
        return source.choice("<>") + str(source.choice([0, 1, 2, 3, 500, 997, 998, 999]))
    if source.random() < 0.3:
        return "-" + days_alone(source, deep - 1)
    return "(" + days_alone(source, deep - 1) + source.choice("&|") + days_alone(source, deep - 1) + ")"


def by_days(text):
    """Whether the query is so, as a function of the day."""
    signs = {"-": " not ", "&": " and ", "|": " or ", "<": "day <= ", ">": "day >= "}
    return eval("lambda day: " + "".join(signs.get(sign, sign) for sign in text))


class Refused(unittest.TestCase):
    def test_out_of_range(self):
        for value in [-1, 4, LEAST, GREATEST]:
            for j, k in [(value, 0), (0, value), (value, 3), (3, value), (value, value)]:
                self.assertEqual(last(same(j, k)), [-1])
                self.assertEqual(last(ONE, ask(0, 0, "A"), same(j, k)), [-1])

    def test_no_query(self):
        for j in range(4):
            for k in range(4):
                self.assertEqual(last(same(j, k)), [-8])
                self.assertEqual(last(ONE, ask(1, 0, "A"), same(j, k)), [1] if j == k == 1 else [-8])

    def test_nothing_changes(self):
        calls = [ONE, paper(0, [], [0]), ask(0, 0, "A"), ask(1, 0, "B"), news(0), same(0, 1), same(0, 2), asks(0),
                 asks(1), asks(2), find(0), find(1), news(0), same(0, 1)]
        self.assertEqual(run(*calls)[4:], [[1, 0], [0, 0, 0, 1, 0], [-8], [0, 65], [0, 66], [-8], [1, 0, 0], [0, 0],
                                           [0], [0, 0, 0, 1, 0]])


if __name__ == "__main__":
    unittest.main()
