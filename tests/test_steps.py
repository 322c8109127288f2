import unittest

from tests.lines import (ask, back, card, cards, find, hand, last, lend, lose,
                         put, room, run, take, tray, where)


class RoomCall(unittest.TestCase):
    def test_answers_0_and_has_so_many_trays_and_clerks(self):
        for trays in range(1, 5):
            for clerks in range(1, 4):
                given = run([room(trays, clerks)] + [tray(t) for t in range(5)]
                            + [hand(c) for c in range(4)])
                self.assertEqual(given[0], [0])
                self.assertEqual(given[1:6], [[0] if t < trays else [-1] for t in range(5)])
                self.assertEqual(given[6:], [[0] if c < clerks else [-1] for c in range(4)])

    def test_a_second_room_has_no_cards_and_an_empty_journal(self):
        calls = cards(5) + [take(0, 0, 0), take(0, 0, 0), lend(0, 0, 1), lose(4), room(2, 1)]
        given = run(calls + [tray(0), hand(0), where(0), where(1), where(2), where(4),
                             back(0, 0), find(4, 0), ask(0, -1000, 1000), card(4, 1, 0)])
        self.assertEqual(given[len(calls) - 1:],
                         [[0], [0], [0], [4], [4], [4], [4], [-4], [-4], [0, 0], [0]])

    def test_out_of_range(self):
        for trays, clerks in ((0, 1), (5, 1), (1, 0), (1, 4), (-1, 1), (1, -1)):
            self.assertEqual(run([card(3, 0, 0), room(trays, clerks), tray(0), lose(3)]),
                             [[0], [-1], [1, 3], [1]])


class CardCall(unittest.TestCase):
    def test_lies_in_its_home_behind_the_others(self):
        self.assertEqual(run([room(2, 1), card(9, 1, 5), card(3, 0, 5), card(4, 1, -5), tray(0), tray(1)]),
                         [[0], [0], [1], [2], [1, 3], [2, 9, 4]])

    def test_behind_cards_of_another_home(self):
        self.assertEqual(last([room(2, 1), card(9, 1, 5), take(0, 1, 0), put(0, 0, 0, 0),
                               card(3, 0, 0), tray(0)]), [2, 9, 3])

    def test_a_number_twice_wherever_the_card_is(self):
        here = [room(2, 1), card(5, 0, 0)]
        for more in ([], [take(0, 0, 0)], [take(0, 0, 0), lend(0, 0, 0)], [lose(5)]):
            self.assertEqual(last(here + more + [card(5, 1, 7)]), [-4])

    def test_forty_cards_and_one_more(self):
        given = run(cards(40) + [card(40, 0, 0), tray(0), where(40)])
        self.assertEqual(given[39:], [[39], [-3], [40] + list(range(40)), [4]])

    def test_forty_count_wherever_they_are(self):
        calls = cards(40) + [lose(0), take(0, 0, 0), lend(0, 0, 1), take(0, 0, 0)]
        self.assertEqual(last(calls + [card(40, 0, 0)]), [-3])


class TakeCall(unittest.TestCase):
    def test_first_middle_last(self):
        for p, left in ((0, [2, 1, 2]), (1, [2, 0, 2]), (2, [2, 0, 1])):
            self.assertEqual(run(cards(3) + [take(0, 0, p), tray(0), hand(0)])[3:],
                             [[3], left, [1, p]])

    def test_behind_the_others_in_the_hand(self):
        self.assertEqual(last(cards(4) + [take(0, 0, 2), take(0, 0, 0), take(0, 0, 1), hand(0)]),
                         [3, 2, 0, 3])

    def test_each_clerk_and_each_tray(self):
        calls = [room(4, 3), card(5, 3, 0), card(6, 2, 0), take(2, 3, 0), take(1, 2, 0)]
        self.assertEqual(run(calls + [hand(0), hand(1), hand(2), tray(3), tray(2)])[3:],
                         [[2], [3], [0], [1, 6], [1, 5], [0], [0]])

    def test_nothing_lies_there(self):
        self.assertEqual(run([take(0, 0, 0)] + cards(2) + [take(0, 0, 2), take(0, 0, 40), take(0, 0, 1)]),
                         [[-4], [0], [1], [-4], [-4], [2]])

    def test_the_last_of_forty_and_one_behind(self):
        self.assertEqual(run(cards(40) + [take(0, 0, 40), take(0, 0, 39), hand(0)])[40:],
                         [[-4], [40], [1, 39]])

    def test_a_hand_with_three(self):
        calls = [room(1, 2)] + cards(5) + [take(0, 0, 0)] * 4
        self.assertEqual(run(calls + [hand(0), tray(0), take(1, 0, 0)])[6:],
                         [[5], [6], [7], [-5], [3, 0, 1, 2], [2, 3, 4], [8]])


class PutCall(unittest.TestCase):
    def setUp(self):
        self.held = [room(2, 2)] + cards(5) + [card(9, 1, 0), take(0, 0, 0), take(0, 0, 0), take(0, 0, 0)]

    def test_first_middle_last_and_one_behind(self):
        for p, row in ((0, [3, 1, 3, 4]), (1, [3, 3, 1, 4]), (2, [3, 3, 4, 1])):
            self.assertEqual(run(self.held + [put(0, 1, 0, p), tray(0), hand(0)])[-3:],
                             [[9], row, [2, 0, 2]])
        self.assertEqual(run(self.held + [put(0, 1, 0, 3), tray(0), hand(0)])[-3:],
                         [[-4], [2, 3, 4], [3, 0, 1, 2]])

    def test_each_place_in_the_hand(self):
        for h in range(3):
            self.assertEqual(run(self.held + [put(0, h, 1, 1), tray(1)])[-2:], [[9], [2, 9, h]])

    def test_no_card_at_h(self):
        self.assertEqual(last(self.held + [put(1, 0, 0, 0)]), [-4])
        self.assertEqual(last(self.held + [put(0, 2, 0, 0), put(0, 2, 0, 0)]), [-4])
        self.assertEqual(last(self.held + [put(0, 2, 0, 0), put(0, 1, 0, 0)]), [10])

    def test_into_an_empty_tray(self):
        calls = [room(2, 1), card(5, 0, 0), take(0, 0, 0)]
        self.assertEqual(run(calls + [put(0, 0, 1, 1), put(0, 0, 1, 40), put(0, 0, 1, 0), tray(1)])[3:],
                         [[-4], [-4], [2], [1, 5]])

    def test_behind_thirty_nine(self):
        calls = cards(40) + [take(0, 0, 0), put(0, 0, 0, 40), put(0, 0, 0, 39), where(0)]
        self.assertEqual(run(calls)[41:], [[-4], [41], [0, 0, 39]])


class LendCall(unittest.TestCase):
    def setUp(self):
        self.held = [room(1, 2)] + cards(4) + [take(0, 0, 0), take(0, 0, 0), take(0, 0, 0)]

    def test_each_place_in_the_hand(self):
        for h, left in ((0, [2, 1, 2]), (1, [2, 0, 2]), (2, [2, 0, 1])):
            self.assertEqual(run(self.held + [lend(0, h, h + 7), where(h), hand(0)])[-3:],
                             [[7], [2, h + 7, 0], left])

    def test_several_to_one(self):
        self.assertEqual(run(self.held + [lend(0, 0, 3), lend(0, 0, 3), where(0), where(1)])[-4:],
                         [[7], [8], [2, 3, 0], [2, 3, 0]])

    def test_no_card_at_h(self):
        self.assertEqual(last(self.held + [lend(1, 0, 0)]), [-4])
        self.assertEqual(last(self.held + [lend(0, 0, 0), lend(0, 2, 0)]), [-4])
        self.assertEqual(last(self.held + [lend(0, 0, 0), lend(0, 1, 0)]), [8])


class BackCall(unittest.TestCase):
    def setUp(self):
        self.lent = [room(1, 2)] + cards(6) + [take(0, 0, 0), take(0, 0, 0), take(0, 0, 0), lend(0, 1, 8)]

    def test_behind_the_others_of_either_clerk(self):
        self.assertEqual(run(self.lent + [back(0, 1), hand(0), where(1)])[-3:],
                         [[10], [3, 0, 2, 1], [1, 0, 2]])
        self.assertEqual(run(self.lent + [back(1, 1), hand(1), hand(0)])[-3:],
                         [[10], [1, 1], [2, 0, 2]])

    def test_not_lent(self):
        for n in (0, 3, 999):
            self.assertEqual(last(self.lent + [back(1, n)]), [-4])
        self.assertEqual(last(self.lent + [lose(1), back(1, 1)]), [-4])
        self.assertEqual(last(self.lent + [back(1, 1), back(1, 1)]), [-4])

    def test_a_hand_with_three(self):
        self.assertEqual(run(self.lent + [take(0, 0, 0), back(0, 1), where(1), back(1, 1)])[-4:],
                         [[10], [-5], [2, 8, 0], [11]])


class LoseCall(unittest.TestCase):
    def test_out_of_a_tray(self):
        self.assertEqual(run(cards(3) + [lose(1), tray(0), where(1), where(2)])[3:],
                         [[3], [2, 0, 2], [3, 0, 0], [0, 0, 1]])

    def test_out_of_a_hand(self):
        calls = [room(1, 2)] + cards(3) + [take(1, 0, 0)] * 3
        self.assertEqual(run(calls + [lose(1), hand(1), where(1), where(2)])[-4:],
                         [[6], [2, 0, 2], [3, 0, 0], [1, 1, 1]])

    def test_when_lent(self):
        calls = cards(2) + [take(0, 0, 0), lend(0, 0, 5)]
        self.assertEqual(run(calls + [lose(0), where(0), find(0, 0), where(0)])[-4:],
                         [[4], [3, 0, 0], [5], [0, 0, 1]])

    def test_no_such_card_or_lost_already(self):
        self.assertEqual(run([lose(0)] + cards(2) + [lose(2), lose(0), lose(0), lose(1)]),
                         [[-4], [0], [1], [-4], [2], [-4], [3]])


class FindCall(unittest.TestCase):
    def test_behind_the_others_of_any_tray(self):
        calls = [room(2, 1)] + cards(3) + [card(7, 1, 0), lose(0)]
        self.assertEqual(run(calls + [find(0, 0), tray(0)])[-2:], [[5], [3, 1, 2, 0]])
        self.assertEqual(run(calls + [find(0, 1), tray(1), where(0)])[-3:],
                         [[5], [2, 7, 0], [0, 1, 1]])

    def test_not_lost(self):
        held = cards(3) + [take(0, 0, 0), take(0, 0, 0), lend(0, 0, 0)]
        for n in (0, 1, 2, 3):
            self.assertEqual(last(held + [find(n, 0)]), [-4])
        self.assertEqual(last(held + [lose(1), find(1, 0), find(1, 0)]), [-4])

    def test_only_the_one_that_is_found(self):
        self.assertEqual(run(cards(3) + [lose(0), lose(1), lose(2), find(1, 0), where(0), where(1), where(2)])[6:],
                         [[6], [3, 0, 0], [0, 0, 0], [3, 0, 0]])
