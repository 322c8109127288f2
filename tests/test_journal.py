"""log, undo and exchange."""

import unittest

from tests.lines import (GREATEST, LEAST, back, card, cards, clear, counts,
                         doubles, everything, exchange, find, hand, last, lend,
                         log, lose, lose_and_find, missing, put, room, run,
                         take, tray, undo, where)

# Cards 0 to 9 of home 0 and 20 of home 1. 5 and then 6 are lent, 7 and then 8
# are lost, clerk 0 holds 3 and 4, clerk 1 nothing. Some of the steps may be
# exchanged, and so may those of COMMUTING behind them: as exchange says so only
# if all is just as the journal has it, it tells what no other call shows, the
# order of those lent and of those lost.
STORY = [room(2, 2)] + cards(10) + [
    card(20, 1, 0), take(0, 0, 5), take(1, 0, 5), lend(0, 0, 2), lend(1, 0, 9), lose(7), lose(8),
    take(0, 0, 3), take(0, 0, 3), put(0, 1, 0, 0), take(0, 0, 0)]
COMMUTING = [card(30, 1, 0), take(1, 0, 0), lose(20)]


def steps_of(calls):
    return [call for call in calls if 1 <= call[0] <= 7]


def told(steps):
    return [len(steps)] + [number for step in steps for number in step]


def full_story():
    return STORY + lose_and_find(0, 120 - len(steps_of(STORY)))


class LogCall(unittest.TestCase):
    def test_no_steps(self):
        self.assertEqual(run([log(), room(2, 2), log()]), [[0], [0], [0]])

    def test_one_step(self):
        self.assertEqual(last([card(999, 0, -1000), log()]), [1, 1, 999, 0, -1000])

    def test_each_of_the_calls_1_to_7(self):
        calls = [room(2, 2), card(5, 1, -3), take(1, 1, 0), lend(1, 0, 9), back(0, 5), put(0, 0, 0, 0), lose(5),
                 find(5, 1)]
        self.assertEqual(last(calls + [log()]), [7, 1, 5, 1, -3, 2, 1, 1, 0, 4, 1, 0, 9, 5, 0, 5, 3, 0, 0, 0, 0,
                                                 6, 5, 7, 5, 1])

    def test_a_long_story(self):
        self.assertEqual(last(STORY + [log()]), told(steps_of(STORY)))

    def test_refused_steps_and_questions_are_not_told(self):
        calls = [card(5, 0, 0), card(5, 0, 0), card(6, 1, 0), lose(9), take(0, 0, 1), where(5), counts(), tray(0),
                 exchange(0), take(0, 0, 0), back(0, 5), log()]
        self.assertEqual(last(calls), [2, 1, 5, 0, 0, 2, 0, 0, 0])

    def test_room_empties_it(self):
        self.assertEqual(last(STORY + [room(2, 1), log()]), [0])
        self.assertEqual(last(STORY + [room(2, 1), card(3, 1, 7), log()]), [1, 1, 3, 1, 7])

    def test_a_refused_room_does_not(self):
        self.assertEqual(last(cards(1) + [room(0, 1), log()]), [1, 1, 0, 0, 0])

    def test_a_hundred_and_twenty_steps(self):
        full = full_story()
        self.assertEqual(len(steps_of(full)), 120)
        self.assertEqual(last(full + [log()]), told(steps_of(full)))
        self.assertEqual(last(full + [lose(1), log()]), told(steps_of(full)))

    def test_the_longest_that_there_is(self):
        calls = [card(0, 0, 0)] + [take(0, 0, 0), put(0, 0, 0, 0)] * 59 + [lose(0)]
        given = last(calls + [log()])
        self.assertEqual(given, told(calls))
        self.assertEqual(len(given), 1 + 4 + 59 * 9 + 2)


class UndoCall(unittest.TestCase):
    def same_as_without(self, before, steps):
        """All is as before behind the steps and as many times undo."""
        how_many = len(steps_of(before))
        asked = everything(how_many) + COMMUTING + everything(how_many + 3)
        plain = run(before + asked)[len(before):]
        given = run(before + steps + [undo()] * len(steps) + asked)[len(before):]
        done, undone = given[:len(steps)], given[len(steps):2 * len(steps)]
        self.assertEqual(done, [[how_many + k] for k in range(len(steps))], steps)
        self.assertEqual(undone, [[how_many + k] for k in reversed(range(len(steps)))], steps)
        self.assertEqual(given[2 * len(steps):], plain, steps)

    def test_the_story_has_steps_that_may_be_exchanged(self):
        given = run(STORY + COMMUTING + [exchange(i) for i in range(23)])[-23:]
        self.assertEqual([i for i in range(23) if given[i] == [1]], [10, 12, 14, 16, 17, 20, 21, 22])

    def test_nothing_to_undo(self):
        self.assertEqual(run([undo(), room(2, 1), undo(), clear(), undo()]), [[-5], [0], [-5], [0], [-5]])
        self.assertEqual(run(cards(1) + [undo(), undo(), undo()]), [[0], [0], [-5], [-5]])

    def test_refused_it_changes_nothing(self):
        self.assertEqual(run([room(3, 2), undo(), counts()]), [[0], [-5], [3, 2, 0, 0, 0, 0, 0]])

    def test_each_of_the_calls_1_to_7(self):
        for step in (card(50, 0, 0), card(50, 1, 5), take(0, 0, 1), take(1, 1, 0), put(0, 0, 0, 0), put(0, 1, 1, 1),
                     put(0, 0, 0, 4), lend(0, 0, 0), lend(0, 1, 9), back(0, 5), back(0, 6), back(1, 5), lose(0),
                     lose(1), lose(20), lose(3), lose(4), lose(5), lose(6), find(7, 0), find(7, 1), find(8, 0)):
            with self.subTest(step=step):
                self.same_as_without(STORY, [step])

    def test_answers_how_many_are_left(self):
        self.assertEqual(run(cards(5) + [undo(), undo(), card(9, 0, 0), undo()])[5:], [[4], [3], [3], [3]])

    def test_card(self):
        self.assertEqual(run(cards(3) + [undo(), where(2), tray(0), missing(), doubles(), card(2, 0, 9)])[3:],
                         [[2], [4], [2, 0, 1], [0], [1, 0, 1], [2]])

    def test_take_puts_it_back_in_its_place(self):
        self.assertEqual(run(cards(3) + [take(0, 0, 1), undo(), tray(0), hand(0)])[4:], [[3], [3, 0, 1, 2], [0]])

    def test_put_gives_it_back_to_its_place_in_the_hand(self):
        held = cards(4) + [take(0, 0, 0)] * 3
        self.assertEqual(run(held + [put(0, 1, 0, 1), undo(), tray(0), hand(0)])[8:],
                         [[7], [1, 3], [3, 0, 1, 2]])

    def test_lend_gives_it_back_to_its_place_in_the_hand(self):
        held = cards(4) + [take(0, 0, 0)] * 3
        self.assertEqual(run(held + [lend(0, 0, 5), undo(), hand(0), where(0), back(0, 0)])[8:],
                         [[7], [3, 0, 1, 2], [1, 0, 0], [-4]])

    def test_back_leaves_it_with_whom_it_was(self):
        lent = cards(2) + [take(0, 0, 0), lend(0, 0, 5)]
        self.assertEqual(run(lent + [back(0, 0), undo(), where(0), hand(0)])[5:], [[4], [2, 5, 0], [0]])

    def test_lose_wherever_it_was(self):
        for before, place in (([], [0, 0, 1]), ([take(0, 0, 1)], [1, 0, 0]),
                              ([take(0, 0, 0), take(0, 0, 0), take(0, 0, 0)], [1, 0, 1]),
                              ([take(0, 0, 1), lend(0, 0, 8)], [2, 8, 0])):
            steps = 3 + len(before)
            self.assertEqual(run(cards(3) + before + [lose(1), undo(), where(1)])[steps:], [[steps], [steps], place])

    def test_find_leaves_it_lost(self):
        self.assertEqual(run(cards(2) + [lose(0), find(0, 0), undo(), where(0), tray(0)])[4:],
                         [[3], [3, 0, 0], [1, 1]])

    def test_the_order_of_those_lent(self):
        # The two at the end may be exchanged if all is as the journal has it.
        lent = [room(2, 2)] + cards(2) + [take(0, 0, 0), take(1, 0, 0), lend(0, 0, 1), lend(1, 0, 1)]
        end = [card(8, 1, 0), card(9, 1, 0), take(0, 1, 0), lose(9)]
        for step in (back(0, 0), back(0, 1), back(1, 0), lose(0), lose(1)):
            given = run(lent + [step, undo()] + end + [exchange(4), exchange(8)])
            self.assertEqual(given[-2:], [[0], [1]], step)

    def test_the_order_of_those_lost(self):
        lost = [room(2, 2)] + cards(3) + [lose(0), lose(2)]
        end = [card(8, 1, 0), card(9, 1, 0), take(0, 1, 0), take(1, 0, 0)]
        for step in (find(0, 0), find(2, 0), find(0, 1), lose(1)):
            given = run(lost + [step, undo()] + end + [exchange(3), exchange(7)])
            self.assertEqual(given[-2:], [[0], [1]], step)

    def test_the_order_told(self):
        self.assertEqual(run([card(7, 0, 0), card(3, 0, 0), undo(), card(5, 0, 0), card(3, 0, 0), doubles()])[2:],
                         [[1], [1], [2], [3, 7, 5, 7, 3, 5, 3]])

    def test_several_in_a_row(self):
        steps = [card(50, 1, 0), take(1, 0, 0), take(1, 1, 0), lend(1, 0, 3), back(0, 5), put(0, 2, 1, 1), lose(6),
                 find(7, 1), lose(50), find(8, 0), back(1, 0), lose(0), find(6, 0), take(1, 1, 1), lend(0, 0, 4),
                 lend(0, 0, 4)]
        for how_many in range(1, len(steps) + 1):
            self.same_as_without(STORY, steps[:how_many])

    def test_every_step_of_the_story(self):
        steps = steps_of(STORY)
        for left in range(len(steps) + 1):
            begun = STORY[:1] + steps[:left]
            asked = everything(left)
            given = run(STORY + [undo()] * (len(steps) - left) + asked)
            self.assertEqual(given[-len(asked):], run(begun + asked)[-len(asked):])

    def test_steps_done_anew(self):
        steps = steps_of(STORY)
        asked = everything(len(steps))
        plain = run(STORY + asked)[len(STORY):]
        for how_many in range(1, len(steps) + 1):
            again = STORY + [undo()] * how_many + steps[len(steps) - how_many:]
            given = run(again + asked)
            self.assertEqual(given[len(again):], plain)
            self.assertEqual(given[len(again) - 1], [len(steps) - 1])

    def test_another_step_in_the_place_of_the_one_undone(self):
        asked = everything(len(steps_of(STORY)) + 1)
        for wrong, instead in ((lose(0), lose(1)), (back(1, 5), back(1, 6)), (find(7, 0), find(8, 0)),
                               (card(50, 0, 0), card(51, 0, 0)), (take(1, 0, 0), take(1, 0, 1))):
            given = run(STORY + [wrong, undo(), instead] + asked)
            self.assertEqual(given[len(STORY) + 2:], run(STORY + [instead] + asked)[len(STORY):])

    def test_a_hundred_and_twenty_steps(self):
        full = full_story()
        how_many = len(full)
        given = run(full + [lose(1), undo(), lose(1), lose(2), where(1), undo(), where(1), log()])[how_many:]
        self.assertEqual(given, [[-6], [119], [119], [-6], [3, 0, 0], [119], [0, 0, 0], told(steps_of(full)[:-1])])

    def test_all_of_a_hundred_and_twenty_and_done_anew(self):
        full = full_story()
        steps = steps_of(full)
        undone = run(full + [undo()] * 121 + [counts()])[len(full):]
        self.assertEqual(undone, [[k] for k in range(119, -1, -1)] + [[-5], [2, 2, 0, 0, 0, 0, 0]])
        again = full + [undo()] * 120 + steps
        self.assertEqual(run(again + [lose(1), log()])[len(again):], [[-6], told(steps)])
        self.assertEqual(run(again)[len(full) + 120:], [[k] for k in range(120)])

    def test_behind_a_room_of_other_size(self):
        given = run(STORY + [room(4, 3), card(1, 3, 0), take(2, 3, 0), undo(), tray(3), undo(), counts(), undo()])
        self.assertEqual(given[-5:], [[1], [1, 1], [0], [4, 3, 0, 0, 0, 0, 0], [-5]])

    def test_a_refused_step_is_no_step(self):
        self.assertEqual(run(cards(2) + [lose(9), take(0, 0, 5), undo(), tray(0)])[2:],
                         [[-4], [-4], [1], [1, 0]])

    def test_undo_is_no_step_itself(self):
        self.assertEqual(run(cards(3) + [undo(), undo(), undo(), undo(), tray(0)])[3:],
                         [[2], [1], [0], [-5], [0]])


class ExchangeCall(unittest.TestCase):
    def exchanged(self, before, one, other, more=()):
        """What exchange says of these two steps, with more steps behind them."""
        calls = before + [one, other, *more]
        given = run(calls + [exchange(len(steps_of(before)))])
        self.assertEqual([answer for answer in given if answer[0] < 0], [])
        return given[-1]

    def may(self, before, one, other, more=()):
        self.assertEqual(self.exchanged(before, one, other, more), [1], (one, other, more))

    def may_not(self, before, one, other, more=()):
        self.assertEqual(self.exchanged(before, one, other, more), [0], (one, other, more))

    def test_fewer_than_two_steps(self):
        for before in ([], cards(1), [room(2, 2)], STORY + [clear()], STORY + [room(1, 1)], cards(2) + [undo()]):
            for i in (-1, 0, 1, 2, LEAST, GREATEST):
                self.assertEqual(last(before + [exchange(i)]), [-1])

    def test_two_steps(self):
        given = run([card(1, 0, 0), take(0, 0, 0)] + [exchange(i) for i in (-1, 0, 1, 2)])
        self.assertEqual(given[2:], [[-1], [0], [-1], [-1]])

    def test_first_and_last_and_one_beyond(self):
        how_many = len(steps_of(STORY))
        given = run(STORY + [exchange(i) for i in (-1, 0, how_many - 2, how_many - 1, LEAST, GREATEST)])
        self.assertEqual([answer == [-1] for answer in given[len(STORY):]], [True, False, False, True, True, True])

    def test_a_hundred_and_twenty_steps(self):
        ready = [room(2, 1), card(0, 0, 0), card(1, 1, 0), card(2, 1, 0), lose(2), take(0, 1, 0)]
        full = ready + lose_and_find(0, 113) + [put(0, 0, 1, 0), find(2, 0)]
        given = run(full + [exchange(i) for i in (-1, 2, 3, 4, 5, 116, 117, 118, 119, 120)])
        self.assertEqual(given[len(full) - 1], [119])
        self.assertEqual(given[len(full):], [[-1], [0], [1], [1], [0], [0], [1], [1], [-1], [-1]])

    def test_steps_on_unlike_things(self):
        ready = [room(2, 2)] + cards(4) + [card(10, 1, 0), card(11, 1, 0), card(12, 1, 0), lose(3), lose(12),
                                           take(0, 0, 0), take(1, 1, 0)]
        steps = [put(0, 0, 0, 0), lend(1, 0, 5), find(3, 1), lose(1), card(13, 1, 0)]
        self.may(ready, steps[0], steps[1])
        self.may(ready, steps[1], steps[0])
        self.may(ready, steps[1], steps[2])
        self.may(ready, steps[0], find(3, 1))
        self.may(ready, take(0, 0, 0), take(1, 1, 0))
        self.may(ready, take(1, 1, 0), take(0, 0, 0))
        self.may(ready, lose(1), card(13, 1, 0))
        self.may(ready, card(13, 0, 0), lend(1, 0, 5))
        self.may(ready, find(3, 0), find(12, 1))
        self.may(ready, take(0, 0, 0), find(3, 1))

    def test_the_same_step_twice(self):
        self.may(cards(3), take(0, 0, 0), take(0, 0, 0))
        self.may(cards(3) + [take(0, 0, 0), take(0, 0, 0)], lend(0, 0, 4), lend(0, 0, 4))
        self.may(cards(3) + [take(0, 0, 0), take(0, 0, 0)], put(0, 0, 0, 0), put(0, 0, 0, 0))

    def test_one_tray_at_places_that_do_not_touch(self):
        held = [room(1, 2)] + cards(6)
        self.may(held, lose(1), lose(4), [find(1, 0)])
        self.may(held, take(0, 0, 0), lose(5))
        self.may_not(held, take(0, 0, 5), lose(0))
        self.may_not(held, take(0, 0, 1), lose(0))

    def test_refused_the_other_way_round(self):
        two = [room(2, 2)] + cards(2)
        self.may_not(two, card(5, 1, 0), take(0, 1, 0))
        self.may_not(two, card(5, 1, 0), lose(5))
        self.may_not(two, take(0, 0, 0), put(0, 0, 0, 0))
        self.may_not(two, take(0, 0, 0), lend(0, 0, 0))
        self.may_not(two, lose(0), find(0, 0))
        self.may_not(two + [take(0, 0, 0)], lend(0, 0, 1), back(0, 0))
        self.may_not(two + [take(0, 0, 0), lend(0, 0, 1)], back(1, 0), put(1, 0, 0, 0))
        self.may_not(two + [take(0, 0, 0)], lend(0, 0, 1), back(1, 0))
        self.may_not(two + [take(0, 0, 0), lend(0, 0, 1)], back(1, 0), lose(0))
        self.may_not(two, take(0, 0, 1), take(0, 0, 0))
        self.may_not(two + [lose(0)], find(0, 1), take(0, 1, 0))

    def test_a_full_hand_the_other_way_round(self):
        full = [room(1, 2)] + cards(6) + [take(0, 0, 0)] * 3
        self.may_not(full, put(0, 0, 0, 0), take(0, 0, 0))
        self.may_not(full, lend(0, 0, 0), take(0, 0, 0))
        self.may_not(full, lose(0), take(0, 0, 0))
        self.may_not(full, put(0, 0, 0, 0), take(0, 0, 3))

    def test_a_full_room_is_no_bar(self):
        # 40 cards either way round, but told in another order.
        self.may_not(cards(38), card(50, 0, 0), card(51, 0, 0))
        self.may([room(2, 1)] + cards(39), card(50, 1, 0), lose(0))

    def test_a_later_step_that_would_be_refused(self):
        # The other way round clerk 0 lends 1, so that 0 isn't lent.
        self.may_not([room(1, 2)] + cards(2), take(0, 0, 0), take(1, 0, 0), [lend(0, 0, 3), back(0, 0)])

    def test_refused_though_it_would_lead_to_the_same(self):
        # The other way round the first and the last of the three are refused,
        # and the one in the middle leads to the same by itself.
        self.may_not(cards(1) + [lose(0)], find(0, 0), lose(0), [find(0, 0)])
        self.may_not(cards(1), take(0, 0, 0), put(0, 0, 0, 0), [take(0, 0, 0)])

    def test_another_order_in_a_tray(self):
        held = [room(2, 2)] + cards(4) + [take(0, 0, 0), take(1, 0, 0)]
        self.may_not(held, put(0, 0, 1, 0), put(1, 0, 1, 0))
        self.may_not(held, put(0, 0, 0, 1), put(1, 0, 0, 1))
        self.may_not([room(2, 1)] + cards(3) + [lose(0), lose(1)], find(0, 0), find(1, 0))
        self.may_not([room(2, 1)] + cards(3) + [lose(0)], find(0, 1), card(9, 1, 0))

    def test_another_order_in_a_hand(self):
        held = [room(2, 2)] + cards(2) + [card(5, 1, 0), card(6, 1, 0)]
        self.may_not(held, take(0, 0, 0), take(0, 1, 0))
        lent = held + [take(0, 0, 0), take(0, 0, 0), lend(0, 0, 1), lend(0, 0, 2)]
        self.may_not(lent, back(0, 0), back(0, 1))
        self.may(lent, back(0, 0), back(1, 1))
        self.may_not(lent, back(0, 0), take(0, 1, 0))

    def test_other_cards_in_a_hand_or_a_tray(self):
        held = [room(2, 2)] + cards(2)
        self.may_not(held, take(0, 0, 0), take(1, 0, 0))
        both = held + [take(0, 0, 0), take(0, 0, 0)]
        self.may_not(both, put(0, 0, 0, 0), put(0, 0, 1, 0))
        self.may_not(held + [card(5, 0, 0)], take(0, 0, 1), lose(0))

    def test_another_order_of_the_cards_told(self):
        self.may_not([room(2, 1)], card(5, 0, 0), card(6, 1, 0))
        self.may_not([room(2, 1)], card(5, 0, 0), card(6, 1, 0), [lose(5), lose(6), find(6, 0), find(5, 0)])
        self.may_not([room(2, 1)], card(5, 0, 0), card(6, 0, 0), [lose(5), lose(6)])

    def test_another_order_of_those_lent(self):
        held = [room(2, 2)] + cards(3) + [take(0, 0, 0), take(1, 0, 0)]
        self.may_not(held, lend(0, 0, 4), lend(1, 0, 4))
        self.may_not(held, lend(0, 0, 4), lend(1, 0, 4), [take(0, 0, 0), put(0, 0, 0, 0)])
        # Got back and lent anew, each is last of those lent either way round.
        self.may(held, lend(0, 0, 4), lend(1, 0, 4), [back(0, 0), lend(0, 0, 4)])
        self.may(held, lend(0, 0, 4), lend(1, 0, 4), [back(0, 1)])
        self.may(held, lend(0, 0, 4), lend(1, 0, 4), [back(1, 0)])

    def test_lent_to_somebody_else(self):
        held = cards(3) + [take(0, 0, 0), take(0, 0, 0)]
        self.may_not(held, lend(0, 0, 4), lend(0, 0, 5))
        self.may(held, lend(0, 0, 4), lend(0, 0, 5), [back(0, 0), back(0, 1)])

    def test_another_order_of_those_lost(self):
        self.may_not(cards(3), lose(0), lose(1))
        self.may_not(cards(3), lose(0), lose(1), [lose(2)])
        self.may_not(cards(3), lose(0), lose(1), [lose(2), find(2, 0)])
        self.may(cards(3), lose(0), lose(1), [find(0, 0)])
        self.may(cards(3), lose(0), lose(1), [find(1, 0)])
        self.may(cards(3), lose(0), lose(1), [find(1, 0), lose(1)])
        self.may(cards(3), lose(0), lose(1), [find(0, 0), find(1, 0)])

    def test_the_end_counts_not_the_way(self):
        # In between there's another order in the tray; lost and found, each
        # comes behind the others.
        lost = cards(3) + [lose(0), lose(1)]
        self.may_not(lost, find(0, 0), find(1, 0))
        self.may(lost, find(0, 0), find(1, 0), [lose(0), find(0, 0)])
        self.may_not(lost, find(0, 0), find(1, 0), [lose(2), find(2, 0)])

    def test_in_the_middle_of_the_journal(self):
        ready = [room(2, 2), card(0, 0, 0), card(1, 1, 0), take(0, 0, 0), take(1, 1, 0), put(0, 0, 1, 0), lose(1)]
        self.assertEqual(run(ready + [exchange(i) for i in range(5)])[-5:], [[0], [1], [1], [0], [1]])

    def test_the_trays_and_clerks_are_those_of_the_room(self):
        self.may([room(4, 3), card(0, 3, 0), card(1, 2, 0)], take(2, 3, 0), take(1, 2, 0))

    def test_changes_nothing(self):
        for before in (STORY, full_story(), cards(3) + [lose(0), lose(1)], STORY + COMMUTING):
            how_many = len(steps_of(before))
            asked = everything(min(how_many, 10))
            plain = run(before + asked + [undo()] + asked)[len(before):]
            for i in (-1, 0, 5, how_many - 2, how_many - 1):
                given = run(before + [exchange(i)] + asked + [undo()] + asked)
                self.assertEqual(given[len(before) + 1:], plain, i)

    def test_asked_again_it_answers_the_same(self):
        asked = [exchange(i) for i in range(-1, 24)]
        given = run(STORY + COMMUTING + asked + asked)[-2 * len(asked):]
        self.assertEqual(given[:len(asked)], given[len(asked):])
        self.assertIn([0], given)
        self.assertIn([1], given)

    def test_behind_undo(self):
        calls = cards(3) + [lose(0), lose(1), find(0, 0)]
        self.assertEqual(run(calls + [exchange(3), undo(), exchange(3), exchange(4)])[-4:], [[1], [5], [0], [-1]])
