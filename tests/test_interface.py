import contextlib
import io
import time
import unittest

from cardclerks.room import answers
from tests.lines import (ask, card, cards, clear, counts, doubles, everything,
                         exchange, find, flat, hand, inventory, last, least,
                         lend, log, lose, lose_and_find, missing, plan, put,
                         right, room, run, staying, take, tray, undo, where)

EXAMPLE = [
    (room(2, 1), [0]),
    (card(5, 0, 3), [0]),
    (card(6, 0, 1), [1]),
    (card(7, 0, 2), [2]),
    (card(8, 1, 9), [3]),
    (least(), [1]),
    (staying(0), [2, 6, 7]),
    (plan(), [1, 0, 0, 0, 2]),
    (take(0, 1, 0), [4]),
    (put(0, 0, 0, 1), [5]),
    (tray(0), [4, 5, 8, 6, 7]),
    (least(), [2]),
    (plan(), [2, 0, 0, 0, 3, 0, 0, 1, 0]),
    (ask(1, 0, 9), [0, 1, 8]),
    (where(8), [0, 0, 1]),
    (take(0, 0, 0), [6]),
    (lend(0, 0, 4), [7]),
    (where(5), [2, 4, 0]),
    (missing(), [1, 5]),
    (exchange(0), [0]),
    (exchange(6), [0]),
    (undo(), [7]),
    (hand(0), [1, 5]),
]


class NeverChanged(list):
    """A list that can be read alone."""

    def refuse(self, *args, **kwargs):
        raise AssertionError("the list handed in is changed")

    append = extend = insert = pop = remove = clear = sort = reverse = refuse
    __setitem__ = __delitem__ = __iadd__ = __imul__ = refuse


class TheFlatForm(unittest.TestCase):
    def test_each_answer_stands_behind_its_length(self):
        self.assertEqual(
            answers([0, 2, 1, 1, 5, 0, 3, 9, 0, 9, 1, 9, 2, 8, 5, 8, 6, 11, 0, 0, 9]),
            [1, 0, 1, 0, 2, 1, 5, 1, 0, 1, -1, 3, 0, 0, 0, 1, 4, 3, 1, 5, 0])

    def test_one_call_alone(self):
        self.assertEqual(answers([9, 0]), [1, 0])
        self.assertEqual(answers([0, 0, 1]), [1, -1])

    def test_every_call_number_by_number(self):
        calls = [0, 2, 2, 1, 5, 0, 3, 1, 6, 1, -4, 2, 1, 0, 0, 3, 1, 0, 1, 0,
                 2, 0, 1, 1, 4, 0, 0, 9, 5, 1, 6, 6, 5, 7, 5, 0,
                 8, 6, 9, 0, 10, 1, 11, 1, -4, 3]
        self.assertEqual(answers(calls), [
            1, 0, 1, 0, 1, 1, 1, 2, 1, 3,
            1, 4, 1, 5, 1, 6, 1, 7, 1, 8,
            3, 1, 1, 0, 2, 1, 5, 2, 1, 6, 3, 0, 1, 6])

    def test_every_later_call_number_by_number(self):
        # room (2, 1); cards 5 and 6 of key 3 and 7 of key 1, all of home 0;
        # lose (6): tray 0 holds 5 7.
        calls = [0, 2, 1, 1, 5, 0, 3, 1, 6, 0, 3, 1, 7, 0, 1, 6, 6,
                 12, 13, 14, 15, 0, 15, 1, 15, 2, 16, 17, 0, 3, 9, 7, 6, 17, 0, 0, 17, 1, 2, 4, 4,
                 18, 20, 0, 20, 2, 20, 3, 21, 22, 19, 21, 22, 23, 19, 21]
        self.assertEqual(answers(calls), [
            1, 0, 1, 0, 1, 1, 1, 2, 1, 3,
            2, 0, 0, 1, 1, 5, 1, 0, 1, 0, 0, 2, 1, 5, 1, 0, 1, -1, 3, 1, 5, 6,
            5, 1, 5, 2, 9, 6, 4, 2, 5, 7, 0, 1, -1,
            15, 4, 1, 5, 0, 3, 1, 6, 0, 3, 1, 7, 0, 1, 6, 6,
            1, 0, 1, 1, 1, -1,
            7, 2, 1, 3, 2, 0, 1, 4, 2, 1, 6,
            1, 3, 7, 2, 1, 3, 3, 0, 0, 3, 1, 0,
            1, 0, 1, -5, 7, 1, 1, 0, 0, 0, 0, 0])

    def test_calls_without_arguments_stand_side_by_side(self):
        self.assertEqual(answers([12, 13, 14, 16, 18, 19, 21, 22, 23]),
                         [1, 1, 1, 0, 1, 0, 1, 0, 1, 0, 1, -5, 7, 1, 1, 0, 0, 0, 0, 0, 1, 0, 1, 0])

    def test_calls_behind_an_inventory(self):
        self.assertEqual(answers([17, 0, 0, 13, 17, 0, 2, 13, 14, 13, 17, 5, 3, 14, 14, 12, 12]),
                         [2, 0, 0, 1, 0, 4, 0, 2, 13, 14, 1, 0, 1, -1, 1, 1])

    def test_four_hundred_calls(self):
        self.assertEqual(answers([8, 0] * 400), [1, 4] * 400)

    def test_only_plain_whole_numbers_in_a_plain_list(self):
        given = answers(flat([call for call, answer in EXAMPLE]))
        self.assertIs(type(given), list)
        self.assertEqual({type(number) for number in given}, {int})

    def test_only_plain_whole_numbers_of_every_call(self):
        given = answers(flat(cards(3) + [lose(1)] + everything(4) + [undo(), clear()]))
        self.assertEqual({type(number) for number in given}, {int})


class TheExample(unittest.TestCase):
    def test_each_row(self):
        self.assertEqual(run([call for call, answer in EXAMPLE]),
                         [answer for call, answer in EXAMPLE])

    def test_as_one_list(self):
        self.assertEqual(
            answers([0, 2, 1, 1, 5, 0, 3, 1, 6, 0, 1, 1, 7, 0, 2, 1, 8, 1, 9, 13, 15, 0, 14, 2, 0, 1, 0,
                     3, 0, 0, 0, 1, 9, 0, 13, 14, 11, 1, 0, 9, 8, 8, 2, 0, 0, 0, 4, 0, 0, 4, 8, 5, 22,
                     20, 0, 20, 6, 19, 10, 0]),
            [1, 0, 1, 0, 1, 1, 1, 2, 1, 3, 1, 1, 3, 2, 6, 7, 5, 1, 0, 0, 0, 2, 1, 4,
             1, 5, 5, 4, 5, 8, 6, 7, 1, 2, 9, 2, 0, 0, 0, 3, 0, 0, 1, 0, 3, 0, 1, 8, 3, 0, 0, 1, 1, 6, 1, 7,
             3, 2, 4, 0, 2, 1, 5, 1, 0, 1, 0, 1, 7, 2, 1, 5])


class NothingIsKept(unittest.TestCase):
    def test_the_list_handed_in_stays_the_same(self):
        calls = flat([call for call, answer in EXAMPLE])
        before = list(calls)
        answers(calls)
        self.assertEqual(calls, before)

    def test_the_list_handed_in_is_not_changed_for_a_while_either(self):
        for line in ([call for call, answer in EXAMPLE], cards(40) + everything(40),
                     [inventory(0, [3, 2, 1]), inventory(0, [1, 1]), clear(), undo(), room(9, 9)]):
            calls = NeverChanged(flat(line))
            before = list(calls)
            answers(calls)
            self.assertEqual(list(calls), before)

    def test_a_second_run_answers_the_same(self):
        calls = flat([call for call, answer in EXAMPLE])
        self.assertEqual(answers(calls), answers(calls))

    def test_another_run_between_leaves_no_trace(self):
        run([room(4, 3)] + cards(40))
        self.assertEqual(run([tray(1), hand(1), tray(0), hand(0), where(0), card(0, 0, 0)]),
                         [[-1], [-1], [0], [0], [4], [0]])

    def test_changing_what_was_given_back_changes_no_later_run(self):
        answers([1, 5, 0, 0, 9, 0]).clear()
        self.assertEqual(answers([1, 5, 0, 0, 9, 0]), [1, 0, 2, 1, 5])

    def test_a_second_run_of_every_call_answers_the_same(self):
        calls = flat(cards(5) + [lose(1), take(0, 0, 0), lend(0, 0, 3)] + everything(8) + [undo()] + everything(7))
        first = answers(calls)
        answers(flat([room(3, 3)] + cards(40) + [lose(3), clear()]))
        self.assertEqual(answers(calls), first)

    def test_nothing_is_printed(self):
        out = io.StringIO()
        with contextlib.redirect_stdout(out), contextlib.redirect_stderr(out):
            run([call for call, answer in EXAMPLE] + everything(7))
        self.assertEqual(out.getvalue(), "")


class BeforeTheFirstCall(unittest.TestCase):
    def test_one_tray_one_clerk_no_cards(self):
        self.assertEqual(run([tray(0), tray(1), hand(0), hand(1), ask(0, -1000, 1000)]),
                         [[0], [-1], [0], [-1], [0, 0]])

    def test_the_journal_is_empty(self):
        self.assertEqual(last([card(0, 0, 0)]), [0])

    def test_no_cards_at_all(self):
        self.assertEqual(run([right(), least(), plan(), staying(0), doubles(), inventory(0, []), log(), undo(),
                              exchange(0), counts(), missing(), clear()]),
                         [[1], [0], [0], [0], [0], [0, 0], [0], [-5], [-1], [1, 1, 0, 0, 0, 0, 0], [0], [0]])


class LongLines(unittest.TestCase):
    def each_within_seconds(self, calls):
        self.assertEqual(len(calls), 400)
        begin = time.process_time()
        given = run(calls)
        self.assertLess(time.process_time() - begin, 5)
        self.assertEqual(len(given), 400)
        return given

    def test_each_question_with_forty_cards_and_a_hundred_and_twenty_steps(self):
        full = [room(4, 3)] + cards(40) + lose_and_find(7, 80)
        for call in (where(39), tray(0), hand(2), ask(0, -1000, 1000), right(), least(), plan(), staying(0),
                     doubles(), inventory(0, list(range(40, 80))), log(), exchange(0), exchange(60), exchange(118),
                     counts(), missing()):
            with self.subTest(call=call):
                given = self.each_within_seconds(full + [call] * (400 - len(full)))
                self.assertEqual(given[120], [119])
                self.assertEqual(given[121:], given[121:122] * 279)
                self.assertGreaterEqual(given[121][0], 0)

    def test_a_plan_of_thirty_nine_moves_again_and_again(self):
        falling = [card(n, 0, -n) for n in range(40)] + lose_and_find(39, 80)
        given = self.each_within_seconds(falling + [plan()] * 280)
        self.assertEqual(given[-1][0], 39)
        self.assertEqual(len(given[-1]), 1 + 4 * 39)

    def test_steps_undone_and_done_anew(self):
        full = cards(40) + lose_and_find(7, 80)
        given = self.each_within_seconds(full + [undo(), find(7, 0)] * 140)
        self.assertEqual(given[120:], [[119], [119]] * 140)

    def test_all_undone(self):
        given = self.each_within_seconds(cards(40) + lose_and_find(7, 80) + [undo()] * 280)
        self.assertEqual(given[120:], [[k] for k in range(119, -1, -1)] + [[-5]] * 160)

    def test_everything_at_once(self):
        line = [room(4, 3)] + cards(40) + lose_and_find(7, 80)
        asked = everything(119)
        self.each_within_seconds((line + asked + asked)[:400])
