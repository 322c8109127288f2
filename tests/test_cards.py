"""The questions of all cards: doubles, inventory, counts, missing; and clear."""

import itertools
import random
import unittest

from cardclerks.room import answers
from tests.lines import (GREATEST, LEAST, back, card, cards, clear, counts,
                         doubles, everything, exchange, find, hand,
                         inventory, last, lend, log, lose, missing, put, right,
                         room, run, take, tray, undo, where)

# Told in the order 5 3 9 1 7; 5 lies in tray 0, 3 is in a hand, 9 is lent,
# 1 is lost, 7 lies in tray 1, which isn't its home.
SPREAD = [room(2, 2), card(5, 0, 4), card(3, 0, 4), card(9, 0, 4), card(1, 0, 4), card(7, 0, 4),
          take(0, 0, 1), take(1, 0, 1), lend(1, 0, 6), lose(1), take(1, 0, 1), put(1, 0, 1, 0)]


class DoublesCall(unittest.TestCase):
    def test_none(self):
        self.assertEqual(run([doubles(), card(5, 0, 0), doubles(), card(6, 0, 1), doubles()]),
                         [[0], [0], [0], [1], [0]])

    def test_one_pair_the_one_told_earlier_first(self):
        self.assertEqual(last([card(9, 0, 4), card(5, 0, 3), card(2, 0, 4), doubles()]), [1, 9, 2])
        self.assertEqual(last([card(2, 0, 4), card(5, 0, 3), card(9, 0, 4), doubles()]), [1, 2, 9])

    def test_another_home_or_another_key_is_no_double(self):
        self.assertEqual(last([room(2, 1), card(1, 0, 4), card(2, 1, 4), doubles()]), [0])
        self.assertEqual(last([room(2, 1), card(1, 0, 4), card(2, 0, -4), doubles()]), [0])
        self.assertEqual(last([room(2, 1), card(1, 1, 4), card(2, 0, 4), card(3, 1, 4), doubles()]), [1, 1, 3])

    def test_pairs_by_the_earlier_then_by_the_other_as_told(self):
        calls = [card(9, 0, 4), card(5, 0, 3), card(7, 0, 4), card(2, 0, 3), card(1, 0, 4), doubles()]
        self.assertEqual(last(calls), [4, 9, 7, 9, 1, 5, 2, 7, 1])

    def test_the_home_counts_not_the_tray(self):
        calls = [room(2, 1), card(5, 0, 4), card(6, 1, 4), take(0, 1, 0), put(0, 0, 0, 0)]
        self.assertEqual(last(calls + [doubles()]), [0])
        calls = [room(2, 1), card(5, 0, 4), card(6, 0, 4), take(0, 0, 0), put(0, 0, 1, 0)]
        self.assertEqual(last(calls + [doubles()]), [1, 5, 6])

    def test_cards_in_hands_lent_and_lost_too(self):
        told = (5, 3, 9, 1, 7)
        pairs = [n for pair in itertools.combinations(told, 2) for n in pair]
        self.assertEqual(last(SPREAD + [doubles()]), [10] + pairs)
        self.assertEqual(last(SPREAD + [lose(5), find(1, 1), back(0, 9), doubles()]), [10] + pairs)

    def test_forty_cards_of_one_key(self):
        pairs = [n for pair in itertools.combinations(range(40), 2) for n in pair]
        self.assertEqual(last(cards(40) + [doubles()]), [780] + pairs)

    def test_forty_cards_of_two_homes(self):
        calls = [room(2, 1)] + [card(n, n % 2, 0) for n in range(40)]
        pairs = [n for pair in itertools.combinations(range(40), 2) if sum(pair) % 2 == 0 for n in pair]
        self.assertEqual(last(calls + [doubles()]), [380] + pairs)

    def test_forty_unlike_keys(self):
        self.assertEqual(last([card(n, 0, n) for n in range(40)] + [doubles()]), [0])


class InventoryCall(unittest.TestCase):
    def test_all_seen(self):
        self.assertEqual(last(cards(3) + [inventory(0, [2, 0, 1])]), [0, 0])

    def test_none_seen(self):
        self.assertEqual(last(cards(3) + [inventory(0, [])]), [3, 0, 1, 2, 0])
        self.assertEqual(last([inventory(0, [])]), [0, 0])

    def test_each_list_in_its_order(self):
        lying = cards(5) + [take(0, 0, 0), put(0, 0, 0, 4)]
        self.assertEqual(last(lying + [tray(0)]), [5, 1, 2, 3, 4, 0])
        self.assertEqual(last(lying + [inventory(0, [9, 2, 7, 8])]), [4, 1, 3, 4, 0, 3, 9, 7, 8])
        self.assertEqual(last(lying + [inventory(0, [8, 4, 7, 1, 9])]), [3, 2, 3, 0, 3, 8, 7, 9])

    def test_cards_that_are_elsewhere(self):
        self.assertEqual(last(SPREAD + [inventory(0, [7, 1, 9, 3, 5])]), [0, 4, 7, 1, 9, 3])
        self.assertEqual(last(SPREAD + [inventory(1, [5])]), [1, 7, 1, 5])
        self.assertEqual(last(SPREAD + [inventory(1, [7])]), [0, 0])

    def test_numbers_of_no_card(self):
        self.assertEqual(last(cards(1) + [inventory(0, [999, 500, 0, 1])]), [0, 3, 999, 500, 1])
        self.assertEqual(last([inventory(0, [999, 0])]), [0, 2, 999, 0])

    def test_an_empty_tray(self):
        self.assertEqual(last([room(2, 1)] + cards(2) + [inventory(1, [1, 0])]), [0, 2, 1, 0])

    def test_forty_numbers(self):
        self.assertEqual(last(cards(40) + [inventory(0, list(range(39, -1, -1)))]), [0, 0])
        self.assertEqual(last(cards(40) + [inventory(0, list(range(40, 80)))]),
                         [40] + list(range(40)) + [40] + list(range(40, 80)))
        self.assertEqual(last(cards(40) + [inventory(0, list(range(59, 19, -1)))]),
                         [20] + list(range(20)) + [20] + list(range(59, 39, -1)))

    def test_a_number_twice(self):
        for seen in ([3, 3], [0, 0], [9, 1, 9], [1, 2, 3, 4, 1], list(range(39)) + [0], list(range(39)) + [38]):
            self.assertEqual(last(cards(5) + [inventory(0, seen)]), [-1])

    def test_a_number_out_of_its_range(self):
        for n in (-1, 1000, LEAST, GREATEST):
            for seen in ([n], [n, 1, 2], [1, n, 2], [1, 2, n], list(range(39)) + [n]):
                self.assertEqual(last(cards(5) + [inventory(0, seen)]), [-1])

    def test_numbers_at_their_ends(self):
        calls = [card(999, 0, 0), card(0, 0, 0)]
        self.assertEqual(last(calls + [inventory(0, [0, 999])]), [0, 0])
        self.assertEqual(last([inventory(0, [0, 999])]), [0, 2, 0, 999])

    def test_more_than_forty(self):
        self.assertEqual(last([inventory(0, list(range(41)))]), [-1])

    def test_no_such_tray(self):
        for t in (-1, 2, 4, LEAST, GREATEST):
            for seen in ([], [1], [1, 1], list(range(40))):
                self.assertEqual(last([room(2, 1)] + cards(3) + [inventory(t, seen)]), [-1])

    def test_the_next_call_begins_behind_the_list(self):
        for seen in ([], [5], [-1], [5, 5], [LEAST, GREATEST], list(range(40)), [23] * 40):
            for t in (0, 7):
                self.assertEqual(run(cards(2) + [inventory(t, seen), counts(), where(1)])[3:],
                                 [[1, 1, 2, 2, 0, 0, 2], [0, 0, 1]])

    def test_number_by_number(self):
        self.assertEqual(answers([1, 4, 0, 0, 1, 6, 0, 0, 17, 0, 3, 9, 6, 8, 17, 0, 0]),
                         [1, 0, 1, 1, 5, 1, 4, 2, 9, 8, 4, 2, 4, 6, 0])

    def test_many_lists_against_plain_words(self):
        for seed in range(100):
            chance = random.Random(seed)
            lying = chance.sample(range(50), chance.randint(0, 20))
            seen = chance.sample(range(50), chance.randint(0, 40))
            unseen = sorted(set(lying) - set(seen), key=lying.index)
            gone = sorted(set(seen) - set(lying), key=seen.index)
            self.assertEqual(last([card(n, 0, 0) for n in lying] + [inventory(0, seen)]),
                             [len(unseen)] + unseen + [len(gone)] + gone)


class CountsCall(unittest.TestCase):
    def test_before_the_first_call(self):
        self.assertEqual(last([counts()]), [1, 1, 0, 0, 0, 0, 0])

    def test_trays_and_clerks(self):
        for trays in range(1, 5):
            for clerks in range(1, 4):
                self.assertEqual(last([room(trays, clerks), counts()]), [trays, clerks, 0, 0, 0, 0, 0])

    def test_step_by_step(self):
        line = [room(2, 3), card(5, 0, 0), card(6, 1, 0), take(2, 1, 0), lend(2, 0, 4), lose(5), lose(6),
                find(5, 1), find(6, 0), take(0, 0, 0), lend(0, 0, 0), back(1, 6), put(1, 0, 0, 0)]
        told = [(0, 0, 0, 0), (1, 1, 0, 0), (2, 2, 0, 0), (2, 1, 0, 0), (2, 1, 1, 0), (2, 0, 1, 1), (2, 0, 0, 2),
                (2, 1, 0, 1), (2, 2, 0, 0), (2, 1, 0, 0), (2, 1, 1, 0), (2, 1, 0, 0), (2, 2, 0, 0)]
        for steps, row in enumerate(told):
            self.assertEqual(last(line[:steps + 1] + [counts()]), [2, 3, *row, steps])

    def test_several_of_each(self):
        calls = [room(4, 2)] + cards(10) + [take(0, 0, 0)] * 3 + [lend(0, 0, 1), lend(0, 0, 1), lose(5), lose(6),
                                                                  lose(7)]
        self.assertEqual(last(calls + [counts()]), [4, 2, 10, 4, 2, 3, 18])
        self.assertEqual(last(SPREAD + [counts()]), [2, 2, 5, 2, 1, 1, 11])

    def test_cards_in_every_tray_lie_in_trays(self):
        calls = [room(4, 1)] + [card(n, n % 4, 0) for n in range(11)]
        self.assertEqual(last(calls + [counts()]), [4, 1, 11, 11, 0, 0, 11])

    def test_refused_calls_do_not_count(self):
        self.assertEqual(last(cards(2) + [lose(9), take(0, 0, 5), card(0, 0, 0), room(5, 1), counts()]),
                         [1, 1, 2, 2, 0, 0, 2])

    def test_forty_cards_and_a_hundred_and_twenty_steps(self):
        calls = [room(4, 3)] + cards(40) + [lose(n) for n in range(40)] + [find(n, 3) for n in range(40)]
        self.assertEqual(last(calls + [counts()]), [4, 3, 40, 40, 0, 0, 120])
        self.assertEqual(last(calls + [lose(0), counts()]), [4, 3, 40, 40, 0, 0, 120])
        self.assertEqual(last(calls[:81] + [counts()]), [4, 3, 40, 0, 0, 40, 80])


class MissingCall(unittest.TestCase):
    def test_none(self):
        self.assertEqual(run([missing()] + cards(2) + [missing()]), [[0], [0], [1], [0]])

    def test_in_the_order_told(self):
        self.assertEqual(last(SPREAD + [missing()]), [3, 3, 9, 1])
        calls = [card(7, 0, 0), card(3, 0, 0), card(5, 0, 0), lose(3), lose(5), lose(7)]
        self.assertEqual(last(calls + [missing()]), [3, 7, 3, 5])
        self.assertEqual(last(calls + [find(7, 0), lose(7), missing()]), [3, 7, 3, 5])

    def test_not_at_home_but_in_a_tray(self):
        calls = [room(2, 1), card(5, 0, 0), take(0, 0, 0)]
        self.assertEqual(run(calls + [missing(), put(0, 0, 1, 0), missing()])[-3:], [[1, 5], [2], [0]])

    def test_in_a_hand_lent_back_lost_and_found(self):
        line = [take(0, 0, 0), lend(0, 0, 0), back(0, 0), lose(0)]
        for k in range(1, 5):
            self.assertEqual(last(cards(2) + line[:k] + [missing()]), [1, 0])
        self.assertEqual(last(cards(2) + line + [find(0, 0), missing()]), [0])

    def test_forty(self):
        calls = cards(40) + [lose(n) for n in range(39, -1, -1)]
        self.assertEqual(last(calls + [missing()]), [40] + list(range(40)))


class ClearCall(unittest.TestCase):
    def test_all_is_as_before_the_first_call(self):
        fresh = run(everything(3))
        for before in (SPREAD, [room(4, 3)] + cards(40), cards(1), [clear()], [room(4, 3)]):
            given = run(before + [clear()] + everything(3))
            self.assertEqual(given[len(before)], [0])
            self.assertEqual(given[len(before) + 1:], fresh)

    def test_one_tray_and_one_clerk_again(self):
        given = run([room(4, 3), clear(), tray(0), tray(1), hand(0), hand(1), counts(), card(0, 1, 0), card(0, 0, 0)])
        self.assertEqual(given[2:], [[0], [-1], [0], [-1], [1, 1, 0, 0, 0, 0, 0], [-1], [0]])

    def test_nothing_to_undo_behind_it(self):
        self.assertEqual(run(SPREAD + [clear(), undo(), log(), exchange(0)])[-4:-2], [[0], [-5]])
        self.assertEqual(run(SPREAD + [clear(), undo(), log(), exchange(0)])[-2:], [[0], [-1]])

    def test_steps_behind_it_are_undone_to_it_and_no_further(self):
        given = run(SPREAD + [clear(), card(8, 0, 1), card(9, 0, 0), undo(), tray(0), log(), undo(), counts(),
                              undo()])[len(SPREAD):]
        self.assertEqual(given, [[0], [0], [1], [1], [1, 8], [1, 1, 8, 0, 1], [0], [1, 1, 0, 0, 0, 0, 0], [-5]])

    def test_when_the_journal_is_full(self):
        full = cards(40) + [lose(n) for n in range(40)] + [find(n, 0) for n in range(40)]
        self.assertEqual(run(full + [lose(0), clear(), card(0, 0, 0), undo(), undo()])[120:],
                         [[-6], [0], [0], [0], [-5]])

    def test_room_in_the_middle_of_a_line(self):
        given = run(SPREAD + [room(1, 2), undo(), exchange(0), log(), counts(), missing(), doubles(), card(4, 0, 0),
                              undo(), tray(1), undo()])[len(SPREAD):]
        self.assertEqual(given, [[0], [-5], [-1], [0], [1, 2, 0, 0, 0, 0, 0], [0], [0], [0], [0], [-1], [-5]])

    def test_undo_behind_a_room_keeps_its_trays_and_clerks(self):
        given = run([room(3, 2), card(1, 2, 0), take(1, 2, 0), undo(), undo(), counts(), tray(2), hand(1)])
        self.assertEqual(given[3:], [[1], [0], [3, 2, 0, 0, 0, 0, 0], [0], [0]])

    def test_a_refused_room_undoes_nothing(self):
        given = run(cards(2) + [room(5, 1), undo(), tray(0)])
        self.assertEqual(given[2:], [[-1], [1], [1, 0]])


class QuestionsChangeNothing(unittest.TestCase):
    def test_asked_twice_and_no_step_counted(self):
        asked = everything(11) + [inventory(0, [1, 1]), inventory(3, []), right()]
        given = run(SPREAD + asked + asked + [lose(5)])
        first = len(SPREAD)
        second = first + len(asked)
        self.assertEqual(given[first:second], given[second:-1])
        self.assertEqual(given[-1], [11])

    def test_each_alone(self):
        plain = run(SPREAD + everything(11))[len(SPREAD):]
        for call in everything(11):
            given = run(SPREAD + [call] + everything(11))
            self.assertEqual(given[len(SPREAD) + 1:], plain, call)
