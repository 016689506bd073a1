"""The function answers: what it takes, what it gives back, what it leaves alone."""

import contextlib
import io
import time
import unittest

from classeditions.desk import answers
from classeditions.shapes import NUMBER_KINDS, in_range, split_calls
from tests.helper import (ask, asks, class_, concord, counts, edition, find, flat, GREATEST, holder, LEAST, likely,
                          mark, news, paper, ranked, remark, row, rows_of, run, same, SINGLES, text, through, told,
                          unmark)

EVERY = [edition("A=0,1,2;B<A=0;"), text(0), class_(0, 1), concord(0, 0, 0), through(0, 0, 0, 0), holder(0, 1, 0),
         paper(3, [0, 4], [0, 1]), mark(0, 0, 1), remark(0, 0, 0, 1), unmark(0, 1), edition("A"), text(1),
         paper(3, [4, 0], []), mark(1, 0, 0), told(0), told(1), ask(0, 0, "(B&-#1)"), ask(1, 0, "A!"), asks(0), find(0),
         find(1), likely(0, 0), likely(2, 0), ranked(1), same(0, 1), same(0, 0), news(0), news(0), ask(0, 0, "("),
         counts()]


class Untouched(list):
    """A list that doesn't let itself be changed, not for a while either."""

    def refuse(self, *args, **kwargs):
        raise AssertionError("what was handed in is changed")

    __setitem__ = __delitem__ = __iadd__ = __imul__ = refuse
    append = extend = insert = pop = remove = clear = sort = reverse = refuse


class Answers(unittest.TestCase):
    def test_counts_and_numbers_one_behind_another(self):
        self.assertEqual(
            answers(flat([edition("A=0;"), text(0), text(1), class_(0, 0), text(4)])),
            [2, 0, 1, 4, 65, 61, 48, 59, 1, -7, 4, 0, 1, 1, 65, 1, -1],
        )

    def test_a_list_of_whole_numbers(self):
        told = answers(flat(EVERY))
        self.assertIs(type(told), list)
        self.assertEqual({type(number) for number in told}, {int})

    def test_each_call(self):
        self.assertEqual(rows_of(answers(flat(EVERY))), [
            [0, 2], list(b"A=0,1,2;B<A=0;"), [1, 1, 1, 66], [2, 0, 1, 0], [2, 0, 1, 0], [1, 1, 1],
            [0], [2], [1], [2], [-6], [-7], [-1], [-5], [3, 2, 0, 4, 2, 1, 1], [-5], [4], [1], [0] + list(b"(B&-#1)"),
            [1, 0, 0], [0, 0], [1, 1], [-8], [0], [0, 0, 0, 1, 0], [1], [1, 0], [0], [-6], [1, 1],
        ])

    def test_no_call_raises_on_a_new_object(self):
        for value in [LEAST, -1, 0, 1, 3, 4, 15, GREATEST]:
            for number in range(19):
                size = len(NUMBER_KINDS[number])
                lists = {0: [[]], 6: [[], []], 11: [[]]}.get(number, [])
                answered = run([number] + [value] * size + flat(row(each) for each in lists))
                with self.subTest(number=number, value=value):
                    self.assertEqual(len(answered), 1)
                    self.assertTrue(answered == [[0, 0]] if number == 18 else answered[0][0] < 0)

    def test_what_is_handed_in_is_the_same_afterwards(self):
        calls = flat(EVERY)
        before = list(calls)
        answers(calls)
        self.assertEqual(calls, before)

    def test_what_is_handed_in_is_not_changed_for_a_while_either(self):
        self.assertEqual(answers(Untouched(flat(EVERY))), answers(flat(EVERY)))

    def test_twice_the_same(self):
        calls = flat(EVERY)
        first = answers(calls)
        kept = list(first)
        self.assertEqual(answers(calls), kept)
        self.assertEqual(first, kept)

    def test_nothing_is_kept(self):
        answers(flat([edition("A=0;")] * 4))
        self.assertEqual(run(text(0), edition("A=0;"), paper(0, [], []), text(1)), [[-7], [0, 1], [0], [-7]])

    def test_changing_what_was_given_back_changes_nothing_later(self):
        calls = flat(EVERY)
        first = answers(calls)
        kept = list(first)
        first.clear()
        self.assertEqual(answers(calls), kept)

    def test_nothing_is_printed(self):
        out = io.StringIO()
        with contextlib.redirect_stdout(out), contextlib.redirect_stderr(out):
            answers(flat(EVERY))
        self.assertEqual(out.getvalue(), "")

    def test_400_calls(self):
        told = "A=0,1,2,3,4,5,6,7,8,9,10,11;"
        calls = [edition(told)] + [text(0)] * 399
        self.assertEqual(run(*calls), [[0, 1]] + [list(told.encode())] * 399)

    def test_400_calls_of_the_heaviest_within_seconds(self):
        wide = edition("A=0,1,2,3,4,5,6,7,8,9,10,11;B<A=0,2,4,6,8,10;")
        # Neither is ever so, which is seen only when every day and all sets of words have been tried.
        words = "((((#0&#1)&(#2&#3))&(#4&#5))&((<1&>3)&((<5&>7)&(<9&A))))"
        days = "((((<12&>14)&(<6&>8))&((<0&>9)&(<11&>5)))&((<3&>7)&(A&-A)))"
        self.assertEqual([len(words), len(days)], [56, 59])
        calls = [wide] + [paper(p, [1, 3], [0, 0, 0]) for p in range(12)]
        calls += [ask(0, 0, words), ask(1, 0, days), ask(2, 0, "-" + days)]
        calls += [same(0, 1), same(1, 0), same(0, 2)]
        calls += [find(0), ranked(2), news(1), likely(2, 3)] * 95 + [counts()]
        self.assertEqual(len(calls), 400)
        before = time.process_time()
        answered = run(*calls)
        self.assertLess(time.process_time() - before, 5)
        self.assertEqual(answered[16:19], [[1], [1], [0, 0, 0, 0]])

    def test_16000_numbers(self):
        calls = [edition([59] * 400)] * 39 + [edition("A=0;")]
        self.assertEqual(run(*calls), [[-6]] * 39 + [[0, 1]])

    def test_rows_that_are_too_long_dont_shift_the_calls_behind_them(self):
        self.assertEqual(run(edition([300] * 400), paper(0, [0] * 400, [0] * 400), edition("A=0;")),
                         [[-1], [-1], [0, 1]])


class Shapes(unittest.TestCase):
    def test_each_call_has_its_shape(self):
        sizes = {0: 0, 1: 1, 2: 2, 3: 3, 4: 4, 5: 3, 6: 1, 7: 3, 8: 4, 9: 2, 10: 1, 11: 2, 12: 1, 13: 1, 14: 2, 15: 1,
                 16: 2, 17: 1, 18: 0}
        rows = {0: [[7, 8, 9]], 6: [[1], []], 11: [[5, 6]]}
        self.assertEqual(sorted(NUMBER_KINDS), list(range(19)))
        told = [(number, list(range(20, 20 + size)), rows.get(number, [])) for number, size in sizes.items()]
        calls = flat([number] + numbers + flat(row(each) for each in lists) for number, numbers, lists in told)
        self.assertEqual(split_calls(calls), told)

    def test_a_querys_text_has_at_most_60_bytes(self):
        self.assertTrue(in_range(11, [3, 3], [[255] * 60]))
        for number, numbers, rows in [(11, [0, 0], [[65] * 61]), (11, [0, 0], [[256]]), (11, [4, 0], [[65]])]:
            self.assertFalse(in_range(number, numbers, rows))


if __name__ == "__main__":
    unittest.main()
