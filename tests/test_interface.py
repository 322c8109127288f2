import contextlib
import io
import unittest

from cardclerks.room import answers
from tests.lines import (ask, card, cards, flat, hand, last, lend, put, room,
                         run, take, tray, where)

EXAMPLE = [
    (room(2, 1), [0]),
    (card(5, 0, 3), [0]),
    (card(6, 0, 1), [1]),
    (card(7, 0, 2), [2]),
    (card(8, 1, 9), [3]),
    (take(0, 1, 0), [4]),
    (put(0, 0, 0, 1), [5]),
    (tray(0), [4, 5, 8, 6, 7]),
    (ask(1, 0, 9), [0, 1, 8]),
    (where(8), [0, 0, 1]),
    (take(0, 0, 0), [6]),
    (lend(0, 0, 4), [7]),
    (where(5), [2, 4, 0]),
]


class TheFlatForm(unittest.TestCase):
    def test_each_answer_stands_behind_its_length(self):
        self.assertEqual(
            answers([0, 2, 1, 1, 5, 0, 3, 9, 0, 9, 1, 9, 2, 8, 5, 8, 6, 11, 0, 0, 9]),
            [1, 0, 1, 0, 2, 1, 5, 1, 0, 1, -1, 3, 0, 0, 0, 1, 4, 3, 1, 5, 0])

    def test_one_call_alone(self):
        self.assertEqual(answers([9, 0]), [1, 0])
        self.assertEqual(answers([0, 0, 1]), [1, -1])

    def test_every_call_number_by_number(self):
        calls = [0, 2, 2, 1, 5, 0, 3, 1, 6, 1, -4, 2, 1, 0, 0, 3, 1, 0, 1, 0,
                 2, 0, 1, 1, 4, 0, 0, 9, 5, 1, 6, 6, 5, 7, 5, 0,
                 8, 6, 9, 0, 10, 1, 11, 1, -4, 3]
        self.assertEqual(answers(calls), [
            1, 0, 1, 0, 1, 1, 1, 2, 1, 3,
            1, 4, 1, 5, 1, 6, 1, 7, 1, 8,
            3, 1, 1, 0, 2, 1, 5, 2, 1, 6, 3, 0, 1, 6])

    def test_four_hundred_calls(self):
        self.assertEqual(answers([8, 0] * 400), [1, 4] * 400)

    def test_only_plain_whole_numbers_in_a_plain_list(self):
        given = answers(flat([call for call, answer in EXAMPLE]))
        self.assertIs(type(given), list)
        self.assertEqual({type(number) for number in given}, {int})


class TheExample(unittest.TestCase):
    def test_each_row(self):
        self.assertEqual(run([call for call, answer in EXAMPLE]),
                         [answer for call, answer in EXAMPLE])


class NothingIsKept(unittest.TestCase):
    def test_the_list_handed_in_stays_the_same(self):
        calls = flat([call for call, answer in EXAMPLE])
        before = list(calls)
        answers(calls)
        self.assertEqual(calls, before)

    def test_a_second_run_answers_the_same(self):
        calls = flat([call for call, answer in EXAMPLE])
        self.assertEqual(answers(calls), answers(calls))

    def test_another_run_between_leaves_no_trace(self):
        run([room(4, 3)] + cards(40))
        self.assertEqual(run([tray(1), hand(1), tray(0), hand(0), where(0), card(0, 0, 0)]),
                         [[-1], [-1], [0], [0], [4], [0]])

    def test_changing_what_was_given_back_changes_no_later_run(self):
        answers([1, 5, 0, 0, 9, 0]).clear()
        self.assertEqual(answers([1, 5, 0, 0, 9, 0]), [1, 0, 2, 1, 5])

    def test_nothing_is_printed(self):
        out = io.StringIO()
        with contextlib.redirect_stdout(out), contextlib.redirect_stderr(out):
            run([call for call, answer in EXAMPLE])
        self.assertEqual(out.getvalue(), "")


class BeforeTheFirstCall(unittest.TestCase):
    def test_one_tray_one_clerk_no_cards(self):
        self.assertEqual(run([tray(0), tray(1), hand(0), hand(1), ask(0, -1000, 1000)]),
                         [[0], [-1], [0], [-1], [0, 0]])

    def test_the_journal_is_empty(self):
        self.assertEqual(last([card(0, 0, 0)]), [0])
