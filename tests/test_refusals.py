import unittest

from tests.lines import (GREATEST, LEAST, ask, back, card, cards, everything,
                         exchange, find, hand, inventory, last, lend, lose,
                         lose_and_find, put, room, run, staying, take, tray,
                         undo, where)

# Two trays, two clerks: 0 to 3 lie in tray 0, 4 in tray 1, 5 is in clerk 0's
# hand, 6 is lent, 7 is lost, and clerk 1's hand has 10, 11 and 12.
READY = [room(2, 2)] + cards(4) + [
    card(5, 0, 0), card(6, 0, 0), card(7, 0, 0), card(4, 1, 0),
    take(0, 0, 4), take(0, 0, 4), lend(0, 1, 3), lose(7),
    card(10, 1, 0), card(11, 1, 0), card(12, 1, 0),
    take(1, 1, 1), take(1, 1, 1), take(1, 1, 1)]

# Each call with good arguments in READY, and each argument's first and last.
RANGES = [
    (room(1, 1), [(1, 4), (1, 3)]),
    (card(50, 0, 0), [(0, 999), (0, 1), (-1000, 1000)]),
    (take(0, 0, 0), [(0, 1), (0, 1), (0, 40)]),
    (put(0, 0, 0, 0), [(0, 1), (0, 2), (0, 1), (0, 40)]),
    (lend(0, 0, 0), [(0, 1), (0, 2), (0, 9)]),
    (back(0, 6), [(0, 1), (0, 999)]),
    (lose(0), [(0, 999)]),
    (find(7, 0), [(0, 999), (0, 1)]),
    (where(0), [(0, 999)]),
    (tray(0), [(0, 1)]),
    (hand(0), [(0, 1)]),
    (ask(0, 0, 0), [(0, 1), (-1000, 1000), (-1000, 1000)]),
    (staying(0), [(0, 1)]),
    (inventory(0, []), [(0, 1)]),
    (exchange(0), [(0, 16)]),
]

ALL_SEEN = everything(18)


def with_argument(call, k, number):
    return call[:k + 1] + (number,) + call[k + 2:]


def all_arguments(call, ranges, number):
    """Each argument that has a range; of inventory the list stays as it is."""
    for k in range(len(ranges)):
        call = with_argument(call, k, number)
    return call


def full_journal():
    return READY + lose_and_find(0, 120 - (len(READY) - 1))


class Ranges(unittest.TestCase):
    def test_first_and_last_are_in_range(self):
        for call, ranges in RANGES:
            for k, (first, end) in enumerate(ranges):
                for number in (first, end):
                    tried = with_argument(call, k, number)
                    with self.subTest(call=tried):
                        self.assertNotEqual(last(READY + [tried]), [-1])

    def test_one_beyond_and_far_beyond_are_not(self):
        for call, ranges in RANGES:
            for k, (first, end) in enumerate(ranges):
                for number in (first - 1, end + 1, LEAST, GREATEST):
                    tried = with_argument(call, k, number)
                    with self.subTest(call=tried):
                        self.assertEqual(last(READY + [tried]), [-1])

    def test_good_arguments_are_not_refused(self):
        for call, ranges in RANGES:
            with self.subTest(call=call):
                self.assertGreaterEqual(last(READY + [call])[0], 0)

    def test_ends_that_are_done(self):
        self.assertEqual(run([room(4, 3), card(0, 3, -1000), card(999, 3, 1000), take(2, 3, 1),
                              lend(2, 0, 9), back(2, 999), put(2, 0, 3, 1), lose(999), find(999, 0),
                              take(0, 3, 0), lend(0, 0, 0), where(0), where(999)]),
                         [[0], [0], [1], [2], [3], [4], [5], [6], [7], [8], [9], [2, 0, 0], [0, 0, 0]])

    def test_trays_and_clerks_there_are_in_each_room(self):
        for trays in range(1, 5):
            for clerks in range(1, 4):
                made = [room(trays, clerks), card(1, 0, 0), card(2, 0, 0), lose(2)]
                beyond = [card(5, trays, 0), take(0, trays, 0), take(clerks, 0, 0), put(0, 0, trays, 0),
                          put(clerks, 0, 0, 0), lend(clerks, 0, 0), back(clerks, 1), find(2, trays),
                          tray(trays), hand(clerks), ask(trays, 0, 0), staying(trays), inventory(trays, [])]
                self.assertEqual(run(made + beyond)[4:], [[-1]] * len(beyond))
                within = [card(5, trays - 1, 0), find(2, trays - 1), take(clerks - 1, trays - 1, 0),
                          put(clerks - 1, 0, trays - 1, 0), ask(trays - 1, 5, 5),
                          inventory(trays - 1, [1, 5, 2]), staying(trays - 1)]
                self.assertEqual(run(made + within)[4:],
                                 [[3], [4], [5], [6], [0, 0]]
                                 + ([[0, 0], [3, 1, 5, 2]] if trays == 1 else [[0, 1, 1], [1, 5]]))

    def test_all_arguments_wrong_at_once(self):
        for call, ranges in RANGES:
            for number in (LEAST, GREATEST):
                self.assertEqual(last(READY + [all_arguments(call, ranges, number)]), [-1])


class Order(unittest.TestCase):
    def test_range_ahead_of_what_the_call_tells(self):
        for call in (card(0, 2, 0), card(0, 0, 1001), take(1, 2, 40), take(1, 0, 41), put(0, 3, 0, 0),
                     put(0, 0, 0, 41), put(1, 0, 0, -1), lend(0, 2, 10), lend(0, 3, 0), back(2, 0),
                     back(1, 1000), lose(-1), find(0, 2), find(1000, 0)):
            self.assertEqual(last(READY + [call]), [-1], call)

    def test_card_there_already_ahead_of_forty(self):
        self.assertEqual(last(cards(40) + [card(7, 0, 0)]), [-4])

    def test_range_ahead_of_forty(self):
        self.assertEqual(last(cards(40) + [card(40, 1, 0)]), [-1])
        self.assertEqual(last(cards(40) + [card(1000, 0, 0)]), [-1])

    def test_nothing_there_ahead_of_a_full_hand(self):
        self.assertEqual(last(READY + [take(1, 0, 4)]), [-4])
        self.assertEqual(last(READY + [take(1, 0, 3)]), [-5])

    def test_not_lent_ahead_of_a_full_hand(self):
        self.assertEqual(last(READY + [back(1, 0)]), [-4])
        self.assertEqual(last(READY + [back(1, 6)]), [-5])


class Journal(unittest.TestCase):
    def test_a_hundred_and_twenty_steps_and_one_more(self):
        given = run([card(0, 0, 0)] + lose_and_find(0, 121))
        self.assertEqual(given, [[k] for k in range(120)] + [[-6], [-4]])

    def test_each_step_is_refused_when_it_is_full(self):
        for call, ranges in RANGES[1:8]:
            # One step short of full, 0 is lost: another card stands for it.
            good = lose(1) if call == lose(0) else call
            with self.subTest(call=good):
                self.assertEqual(last(full_journal() + [good]), [-6])
                self.assertEqual(last(full_journal()[:-1] + [good]), [119])

    def test_last_of_all_refusals(self):
        full = full_journal()
        for call, refusal in ((card(50, 2, 0), -1), (card(1, 0, 0), -4), (take(0, 0, 41), -1), (take(0, 0, 40), -4),
                              (take(1, 0, 0), -5), (put(0, 3, 0, 0), -1), (put(0, 1, 0, 0), -4),
                              (put(0, 0, 0, 40), -4), (lend(0, 0, 10), -1), (lend(0, 1, 0), -4), (back(2, 6), -1),
                              (back(0, 1), -4), (back(1, 6), -5), (lose(1000), -1), (lose(7), -4), (lose(50), -4),
                              (find(7, 2), -1), (find(1, 0), -4)):
            self.assertEqual(last(full + [call]), [refusal], call)
        self.assertEqual(last(cards(40) + lose_and_find(0, 80) + [card(40, 0, 0)]), [-3])

    def test_questions_and_room_are_answered_when_it_is_full(self):
        full = full_journal()
        self.assertEqual(run(full + [where(6), hand(0), room(1, 1), card(3, 0, 0)])[len(full):],
                         [[2, 3, 0], [1, 5], [0], [0]])

    def test_refused_room_leaves_it_full(self):
        self.assertEqual(run(full_journal() + [room(5, 1), lose(1)])[-2:], [[-1], [-6]])


class RefusalsChangeNothing(unittest.TestCase):
    def same_behind(self, before, refused, refusal):
        behind = ALL_SEEN + [lose(1), find(1, 0), undo(), undo()] + ALL_SEEN
        given = run(before + [refused] + behind)
        plain = run(before + behind)
        at = len(before)
        self.assertEqual(given[at], [refusal], refused)
        self.assertEqual(given[:at] + given[at + 1:], plain, refused)

    def test_out_of_range(self):
        for call, ranges in RANGES:
            for k, (first, end) in enumerate(ranges):
                self.same_behind(READY, with_argument(call, k, first - 1), -1)
                self.same_behind(READY, with_argument(call, k, end + 1), -1)

    def test_what_the_calls_tell(self):
        for call in (card(1, 1, 9), card(6, 1, 9), card(7, 1, 9), take(0, 0, 4), take(0, 1, 1), put(0, 1, 0, 0),
                     put(0, 0, 0, 5), put(0, 0, 1, 2), lend(0, 1, 0), back(0, 1), back(0, 5), back(0, 7),
                     back(0, 50), lose(7), lose(50), find(1, 1), find(5, 1), find(6, 1), find(50, 1)):
            self.same_behind(READY, call, -4)
        for call in (take(1, 0, 0), back(1, 6)):
            self.same_behind(READY, call, -5)
        self.same_behind(cards(40), card(40, 0, 0), -3)

    def test_a_full_journal(self):
        full = full_journal()
        for call in (card(50, 0, 0), take(0, 0, 0), put(0, 0, 0, 0), lend(0, 0, 0), back(0, 6), lose(2), lose(5),
                     lose(6), find(7, 0)):
            self.same_behind(full, call, -6)
