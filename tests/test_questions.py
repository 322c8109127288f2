import unittest

from tests.lines import (ask, back, card, cards, find, hand, last, lend, lose,
                         put, room, run, take, tray, where)

# Cards 10 to 14 have home 0, 20 to 22 home 1.
ROOM = [room(3, 2), card(12, 0, 5), card(20, 1, 5), card(10, 0, -5), card(11, 0, 0), card(21, 1, 7),
        card(14, 0, 5), card(22, 1, -1000), card(13, 0, 1000)]


class WhereCall(unittest.TestCase):
    def test_in_a_tray(self):
        self.assertEqual(run(ROOM + [where(12), where(13), where(22)])[-3:],
                         [[0, 0, 0], [0, 0, 4], [0, 1, 2]])

    def test_in_a_hand(self):
        self.assertEqual(run(ROOM + [take(1, 0, 1), take(1, 1, 0), where(10), where(20), where(11)])[-3:],
                         [[1, 1, 0], [1, 1, 1], [0, 0, 1]])

    def test_lent(self):
        for who in (0, 9):
            self.assertEqual(last(ROOM + [take(1, 0, 1), lend(1, 0, who), where(10)]), [2, who, 0])

    def test_lost(self):
        self.assertEqual(last(ROOM + [lose(21), where(21)]), [3, 0, 0])

    def test_no_such_card(self):
        self.assertEqual(run(ROOM + [where(0), where(999), where(23)])[-3:], [[4], [4], [4]])

    def test_card_number_at_its_ends(self):
        self.assertEqual(run([card(0, 0, 0), card(999, 0, 0), where(0), where(999)])[2:],
                         [[0, 0, 0], [0, 0, 1]])


class TrayCall(unittest.TestCase):
    def test_as_they_lie(self):
        self.assertEqual(run(ROOM + [tray(0), tray(1), tray(2)])[-3:],
                         [[5, 12, 10, 11, 14, 13], [3, 20, 21, 22], [0]])

    def test_no_such_tray(self):
        self.assertEqual(run(ROOM + [tray(3), tray(-1)])[-2:], [[-1], [-1]])


class HandCall(unittest.TestCase):
    def test_as_they_lie(self):
        self.assertEqual(run(ROOM + [take(0, 0, 3), take(0, 1, 2), hand(0), hand(1)])[-2:],
                         [[2, 14, 22], [0]])

    def test_no_such_clerk(self):
        self.assertEqual(run(ROOM + [hand(2), hand(-1)])[-2:], [[-1], [-1]])


class AskCall(unittest.TestCase):
    def test_from_lo_to_hi_both_counted(self):
        self.assertEqual(last(ROOM + [ask(0, -5, 5)]), [4, 12, 10, 11, 14, 0])
        self.assertEqual(last(ROOM + [ask(0, -4, 4)]), [1, 11, 0])
        self.assertEqual(last(ROOM + [ask(0, 5, 5)]), [2, 12, 14, 0])

    def test_keys_at_their_ends(self):
        self.assertEqual(last(ROOM + [ask(0, 1000, 1000)]), [1, 13, 0])
        self.assertEqual(last(ROOM + [ask(1, -1000, -1000)]), [1, 22, 0])
        self.assertEqual(last(ROOM + [ask(0, -1000, 1000)]), [5, 12, 10, 11, 14, 13, 0])

    def test_lo_above_hi(self):
        self.assertEqual(last(ROOM + [lose(12), ask(0, 5, 4)]), [0, 0])
        self.assertEqual(last(ROOM + [lose(12), ask(0, 1000, -1000)]), [0, 0])

    def test_cards_of_another_home_that_lie_there(self):
        moved = ROOM + [take(0, 1, 0), put(0, 0, 0, 1)]
        self.assertEqual(last(moved + [ask(0, 5, 7)]), [3, 12, 20, 14, 0])
        self.assertEqual(last(moved + [ask(1, 5, 7)]), [1, 21, 1, 20])

    def test_those_away_in_the_order_told(self):
        away = ROOM + [lose(14), take(1, 0, 2), take(1, 0, 1), take(1, 0, 0), lend(1, 1, 3), put(1, 1, 2, 0)]
        # 14 is lost, 11 in a hand, 10 lent, 12 in another tray.
        self.assertEqual(last(away + [ask(0, -1000, 1000)]), [1, 13, 4, 12, 10, 11, 14])
        self.assertEqual(last(away + [ask(0, 5, 1000)]), [1, 13, 2, 12, 14])
        self.assertEqual(last(away + [ask(2, -1000, 1000)]), [1, 12, 0])

    def test_told_order_is_not_the_order_of_numbers_or_losing(self):
        calls = [card(7, 0, 0), card(3, 0, 0), card(5, 0, 0), lose(3), lose(5), lose(7)]
        self.assertEqual(last(calls + [ask(0, 0, 0)]), [0, 3, 7, 3, 5])
        again = calls + [find(7, 0), lose(7)]
        self.assertEqual(last(again + [ask(0, 0, 0)]), [0, 3, 7, 3, 5])

    def test_as_they_lie_is_not_the_order_told(self):
        calls = cards(3) + [take(0, 0, 0), put(0, 0, 0, 2)]
        self.assertEqual(last(calls + [ask(0, 0, 0)]), [3, 1, 2, 0, 0])

    def test_back_in_the_hand_is_still_away(self):
        calls = [card(1, 0, 4), take(0, 0, 0), lend(0, 0, 2), back(0, 1)]
        self.assertEqual(last(calls + [ask(0, 4, 4)]), [0, 1, 1])


class QuestionsChangeNothing(unittest.TestCase):
    def test_asked_twice_and_no_step_counted(self):
        asked = [where(10), where(1), tray(0), hand(0), ask(0, 0, 9), tray(9), where(-1), hand(7), ask(0, 0, 1001)]
        given = run(ROOM + asked + asked + [lose(10)])
        first = len(ROOM)
        second = first + len(asked)
        self.assertEqual(given[first:second], given[second:-1])
        self.assertEqual(given[-1], [8])
